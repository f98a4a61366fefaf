/- Cursors: awake. -/
import Derived.Test.YtcbnhakfijiioaaGreatFdK
import Derived.Test.YtcbnhakfijiioaaGreatLgE
import Derived.Test.YtcbnhakfijiioaaGreatPA
namespace Go.Proofs.YtcbnhakfijiioaaGreat
open Go Go.RowKit Go.BigFrame
section
variable {c dv dl : Nat} {F F' : Fd} {S : Vt} {k : ByteArray} {b : Bool}
theorem fnext_s (hF : FdOk F) (hS : VtOk S) (hl : S.b.length ≤ 3000) (h : nextF F (keysV S F.part) = (F', some k)) : DoesU Tryz.prog 16 #[.pointer (some ⟨c, 0, none⟩), .pointer (some ⟨dv, 0, none⟩)] [fdT c F, vtT dv dl S] (fun u => [pairT u k (bagV S k) true, fdT c F', vtT dv dl S]) := by
 have h1 := fnext_d c dv dl F hF S hS hl
 rw [nextTl_some (congrArg (fun z => z.2) h), h] at h1
 exact h1
theorem fnext_n (hF : FdOk F) (hS : VtOk S) (hl : S.b.length ≤ 3000) (h : nextF F (keysV S F.part) = (F', none)) : DoesU Tryz.prog 16 #[.pointer (some ⟨c, 0, none⟩), .pointer (some ⟨dv, 0, none⟩)] [fdT c F, vtT dv dl S] (fun u => [pairT u ⟨#[]⟩ noB false, fdT c F', vtT dv dl S]) := by
 have h1 := fnext_d c dv dl F hF S hS hl
 rw [nextTl_none (congrArg (fun z => z.2) h), h] at h1
 exact h1
theorem fover_e (hF : FdOk F) (hS : VtOk S) (hl : S.b.length ≤ 3000) (h : overF F (keysV S F.part) = b) : Does Tryz.prog 21 #[.pointer (some ⟨c, 0, none⟩), .pointer (some ⟨dv, 0, none⟩)] [fdT c F, vtT dv dl S] (.bool b) [fdT c F, vtT dv dl S] := by
 have h1 := fover_d c dv dl F hF S hS hl
 rw [h] at h1
 exact h1
theorem fback_e (hF : FdOk F) (h : backB F k = b) (h2 : backF F k = F') (hk : keyB k = true) (hd : F.due.length < 2000) : Does Tryz.prog 19 #[.pointer (some ⟨c, 0, none⟩), .string k] [fdT c F] (.bool b) [fdT c F'] := by
 have h1 := fback_d c F hF k hk hd
 rw [h, h2] at h1
 exact h1
end
def kA9 : ByteArray := ⟨#[97]⟩
def k19 : ByteArray := ⟨#[49]⟩
def w9V : Vl2 := (playD (newL 9).l, newL 9)
theorem w9_kept : Kept w9V := Kept.open (LgOk.new 9)
theorem kA9_key : keyB kA9 = true := by decide +kernel
theorem w9_keys : keysV (putV w9V 0 kA9 (fun _ => 0) k19).1.1 (pK kA9 : Int) = [kA9] := by decide +kernel
theorem w9_len : (putV w9V 0 kA9 (fun _ => 0) k19).1.1.b.length = 1 := by decide +kernel
theorem next_one (n : Int) (k : ByteArray) : nextF (newF n) [k] = (⟨n, true, k, []⟩, some k) := rfl
theorem next_two (n : Int) (k : ByteArray) : nextF ⟨n, true, k, []⟩ [k] = (⟨n, true, k, []⟩, none) := by
 have hT : Told ⟨n, true, k, []⟩ [k] 1 := ⟨rfl, .inr ⟨by decide, Nat.le_refl _, rfl, rfl⟩⟩
 obtain ⟨h1, _, _⟩ := hT.next (List.pairwise_singleton _ _)
 rcases next_ways (⟨n, true, k, []⟩ : Fd) [k] with ⟨x, r, h2, _⟩ | ⟨x, _, _, h2⟩ | ⟨_, _, h2⟩
 ·cases h2
 ·rw [h2] at h1
  cases h1
 ·exact h2
theorem back_one {n : Int} {k : ByteArray} (h : ofK k = n) : backB ⟨n, true, k, []⟩ k = true ∧ backF ⟨n, true, k, []⟩ k = ⟨n, true, k, [k]⟩ := by
 have h1 : backB ⟨n, true, k, []⟩ k = true := by
  unfold backB
  rw [decide_eq_true h, decide_eq_false (ltK_irrefl k)]
  rfl
 refine ⟨h1, ?_⟩
 unfold backF
 rw [if_pos h1]
 rfl
theorem over_one (n : Int) (k : ByteArray) : overF ⟨n, true, k, [k]⟩ [k] = false := by
 have : popD [k] [k] = (some k, []) := by
  unfold popD
  rw [if_pos (hasL_iff.2 List.mem_cons_self)]
 unfold overF nextF
 rw [this]
 rfl
set_option maxHeartbeats 4000000 in
set_option maxRecDepth 100000 in
theorem fawake_d  : Does Tryz.prog 14 #[] [] (.bool true) [] := by
 intro w H hp
 have HM0 := Lib.hid (mem_refl hp)
 clear hp
 go_enter Tryz.func14, Tryz.ntmps14
 refine wp_seq (wQ ?_)
 refine wp_seq (wN [(0, 3), (1, 3), (2, 1)] ?_)
 refine wU1 0 [] Tryz.call9 (lnew_d 9) HM0 [] fun u3 W2 hm1 => ?_
 obtain ⟨dl, rfl, hm1q⟩ := Mem.lgN hm1
 clear hm1
 have HM4 := Lib.hid hm1q
 clear hm1q
 refine wU1 1 [] Tryz.call8 (vopen_d dl (newL 9) (LgOk.new 9)) HM4 [0] fun u7 W6 hm5 => ?_
 obtain ⟨dv, rfl, hm5q⟩ := Mem.vtN hm5
 clear hm5
 have HM8 := Lib.hid hm5q
 clear hm5q
 refine wT [2] ?_
 refine wZ (wp_seq (wN [(0, 1), (1, 1), (2, 3)] (wT [0] ?_)))
 refine wR 1 (v := vV (fun _ => 0)) (by kernel_rfl) ?_
 refine wD5h 2 [] [_, _] Tryz.call25 (vput_d dv dl w9V w9_kept 0 kA9 (fun _ => 0) k19) HM8 [0, 0] fun W10 HM11 => ?_
 refine wZ (wp_seq ?_)
 obtain ⟨X, hXe⟩ : ∃ X, (putV w9V 0 kA9 (fun _ => 0) k19).1 = X := ⟨_, rfl⟩
 rw [hXe] at HM11
 have hX : Hid (Kept X) := Lib.hid (hXe ▸ w9_kept.put 0 kA9 (fun _ => 0) k19)
 have hks : Hid (keysV X.1 (pK kA9 : Int) = [kA9]) := Lib.hid (by rw [← hXe]; exact w9_keys)
 have hl : Hid (X.1.b.length ≤ 3000) := Lib.hid (by rw [← hXe, w9_len]; decide)
 clear hXe
 have hpk : Hid (0 ≤ (pK kA9 : Int) ∧ (pK kA9 : Int) < 16) := Lib.hid ⟨by omega, by have := pK_lt kA9_key; omega⟩
 have hn1 : Hid (nextF (newF (pK kA9 : Int)) (keysV X.1 (pK kA9 : Int)) = (⟨(pK kA9 : Int), true, kA9, []⟩, some kA9)) := Lib.hid (by rw [hks.out]; exact next_one _ _)
 have hF1 : Hid (FdOk ⟨(pK kA9 : Int), true, kA9, []⟩) := Lib.hid (by have h := (FdOk.new hpk.out).next (keysV X.1 (pK kA9 : Int)); rw [hn1.out] at h; exact h)
 have hn2 : Hid (nextF ⟨(pK kA9 : Int), true, kA9, []⟩ (keysV X.1 (pK kA9 : Int)) = (⟨(pK kA9 : Int), true, kA9, []⟩, none)) := Lib.hid (by rw [hks.out]; exact next_two _ _)
 have hb1 := Lib.hid (back_one (k := kA9) (pK_of kA9_key).symm)
 have hF2 : Hid (FdOk ⟨(pK kA9 : Int), true, kA9, [kA9]⟩) := Lib.hid (by have h := hF1.out.back kA9; rw [hb1.out.2] at h; exact h)
 have ho : Hid (overF ⟨(pK kA9 : Int), true, kA9, [kA9]⟩ (keysV X.1 (pK kA9 : Int)) = false) := Lib.hid (by rw [hks.out]; exact over_one _ _)
 refine wN [(0, 3), (1, 3), (2, 1)] ?_
 refine wD1h 0 [_, _] [_, _] Tryz.call28 (spof_d kA9 kA9_key) HM11 [] fun W13 HM14 => ?_
 refine wU1 1 [_, _] Tryz.call12 (fnew_d (pK kA9 : Int) hpk.out) HM14 [] fun u17 W16 hm15 => ?_
 obtain ⟨c, rfl, hm15q⟩ := Mem.fdN hm15
 clear hm15
 have HM18 := Lib.hid hm15q
 clear hm15q
 refine wT [2] ?_
 refine wZ (wp_seq (wN [(0, 1), (1, 1), (2, 3), (3, 1), (4, 1), (5, 1), (6, 3), (7, 3), (8, 1)] (wT [0, 1] ?_)))
 refine wU2 2 [_] Tryz.call16 (fnext_s (FdOk.new hpk.out) hX.out.ok hl.out hn1.out) HM18 [0, 0] fun u21 W20 hm19 => ?_
 obtain ⟨pw, cw, rfl, hm19q⟩ := Mem.pair rfl hm19
 clear hm19
 have HM22 := Lib.hid hm19q
 clear hm19q
 refine wT [3, 4, 5] ?_
 refine wpS_alloc (i := 6) (dd := 3) (z := prV ⟨#[]⟩ noB.k (.slice none 0 0)) (cs := (prC ⟨#[]⟩ noB.k (.slice none 0 0)).toArray) rfl (by rfl) rfl (by kernel_rfl) rfl HM22.out covS_nil rfl ?_
 rintro b25 W24 hm23 -
 have HM26 := Lib.hid hm23
 clear hm23
 simp only [Act.put, List.setIfInBounds_toArray, List.set_cons_succ, List.set_cons_zero]
 refine wXkh (hone := (prC_one _ _ _)) 7 [_, _, _, _] (prC kA9 (bagV X.1 kA9).k (.slice pw (bagV X.1 kA9).v.length cw)) HM26 0 fun W28 HM29 => ?_
 refine wT [8] ?_
 refine wZ (wp_seq (wN [(0, 1), (1, 1), (2, 3), (3, 1), (4, 1), (5, 1), (6, 3), (7, 3), (8, 1)] (wT [0, 1] ?_)))
 refine wU2 2 [_, _, _] Tryz.call16 (fnext_n hF1.out hX.out.ok hl.out hn2.out) HM29 [2, 2] fun u32 W31 hm30 => ?_
 obtain ⟨pz, cz, rfl, hm30q⟩ := Mem.pair rfl hm30
 clear hm30
 have HM33 := Lib.hid hm30q
 clear hm30q
 refine wT [3, 4, 5] ?_
 refine wpS_alloc (i := 6) (dd := 5) (z := prV ⟨#[]⟩ noB.k (.slice none 0 0)) (cs := (prC ⟨#[]⟩ noB.k (.slice none 0 0)).toArray) rfl (by rfl) rfl (by kernel_rfl) rfl HM33.out covS_nil rfl ?_
 rintro b36 W35 hm34 -
 have HM37 := Lib.hid hm34
 clear hm34
 simp only [Act.put, List.setIfInBounds_toArray, List.set_cons_succ, List.set_cons_zero]
 refine wXkh (hone := (prC_one _ _ _)) 7 [_, _, _, _, _, _] (prC ⟨#[]⟩ noB.k (.slice pz noB.v.length cz)) HM37 0 fun W39 HM40 => ?_
 refine wT [8] ?_
 refine wZ (wp_seq (wN [(0, 1), (1, 1), (2, 1), (3, 1), (4, 1), (5, 1), (6, 1), (7, 1), (8, 1), (9, 1), (10, 1), (11, 1), (12, 3), (13, 1), (14, 1), (15, 1), (16, 1), (17, 3), (18, 1), (19, 1), (20, 1)] (wT [0, 1, 2, 3, 4, 5, 6] ?_)))
 refine wM 7 (.string kA9) (HM40.out.part1 4 rfl prC_key) Tryz.underlying9 ?_
 refine wR 8 (run_eqS (b := true) (s := kA9) (t := kA9) (decide_eq_true rfl) rfl rfl rfl) ?_
 refine wT [9, 10, 11] ?_
 refine wD2h 12 [_, _, _, _, _, _] [_, _, _, _, _, _, _] Tryz.call19 (fback_e hF1.out hb1.out.1 hb1.out.2 kA9_key (by show 0 < 2000; decide)) HM40 [2] fun W42 HM43 => ?_
 refine wT [13, 14, 15, 16] ?_
 refine wD2h 17 [_, _, _, _, _] [_, _, _, _, _, _, _] Tryz.call21 (fover_e hF2.out hX.out.ok hl.out ho.out) HM43 [0, 2] fun W45 HM46 => ?_
 refine wT [18, 19, 20] ?_
 refine wZ (wp_ret (bodyPost_ret (results_tmp rfl _ _ _) rfl ?_))
 exact does_ret (Mem.only (M := []) HM46.out [] rfl) rfl rfl
end Go.Proofs.YtcbnhakfijiioaaGreat
