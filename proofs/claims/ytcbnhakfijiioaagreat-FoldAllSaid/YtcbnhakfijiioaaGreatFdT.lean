/- Cursors: FoldAll. -/
import Derived.Test.YtcbnhakfijiioaaGreatFdO
import Derived.Test.YtcbnhakfijiioaaGreatFdA
import Derived.Test.YtcbnhakfijiioaaGreatLgE
import Derived.Test.YtcbnhakfijiioaaGreatPA
namespace Go.Proofs.YtcbnhakfijiioaaGreat
open Go Go.RowKit Go.BigFrame
def elemQ : Elem Tryz.prog (Int × Int) where
 enc x := [.int .i64 x.1, .int .i64 x.2]
 k := 2
 pos := by decide
 len _ := rfl
 one _ u hu := by
  simp only [List.mem_cons, List.not_mem_nil, or_false] at hu
  rcases hu with rfl | rfl <;> rfl
 t := 37
 sl := 22
 under := Tryz.underlying22
 z := .agg #[.int .i64 0, .int .i64 0]
 bytes := 16
 bpos := by decide
 info := by kernel_rfl
 zs := by kernel_rfl
section
variable {n : Int} {X : Vl2} {F : Fd} {M : Mp ByteArray Hv} {rs : List At} {i : Nat} {k : ByteArray}
theorem Fa.key (h : Fa n X F M (listT rs) i) (hk : k ∈ keysV X.1 n) : keyB k = true ∧ (pK k : Int) = n := by
 obtain ⟨⟨x, hx⟩, h2⟩ := mem_keysV.1 hk
 have := h.kept.ok.key _ hx
 exact ⟨this, (pK_of this).trans h2⟩
theorem Fa.bl (h : Fa n X F M (listT rs) i) (hi : i ≤ 300) : X.1.b.length ≤ 3000 := by
 have h1 := h.kept.len
 have h2 := h.len
 omega
theorem Fa.step (h : Fa n X F M (listT rs) i) : (∃ F2 k, nextF F (keysV X.1 F.part) = (F2, some k) ∧ k ∈ keysV X.1 n ∧ FdOk F2 ∧ F2.part = n ∧ restF F2 (keysV X.1 n) < restF F (keysV X.1 n) ∧ ∀ (A : At) (p : Option Addr) (m c : Nat), Reads elemV A (.slice p m c) (bagV X.1 k).v → Fa n X F2 (M.put k ⟨bagV X.1 k, p, m, c⟩) (listT (A :: rs)) (i + 1)) ∨ (nextF F (keysV X.1 F.part) = (F, none) ∧ F.due = [] ∧ overF F (keysV X.1 F.part) = true) := by
 rw [h.part]
 obtain ⟨o, ho⟩ : ∃ o, (nextF F (keysV X.1 n)).2 = o := ⟨_, rfl⟩
 cases o with
 | some k => exact .inl ⟨(nextF F (keysV X.1 n)).1, k, Prod.ext rfl ho, next_mem ho, h.fd.next _, (next_part _ _).trans h.part, rest_next ho, fun A p m c hA => h.tell ho hA⟩
 | none =>
  obtain ⟨h1, h2, _⟩ := h.noMore ho
  refine .inr ⟨Prod.ext h2 ho, h1, ?_⟩
  unfold overF
  rw [ho]
  rfl
end
theorem sp0_d : Does Tryz.prog 31 #[.string ⟨#[]⟩] [] (.int .i64 (-1)) [] := by
 have h := ofrd_d ⟨#[]⟩ (by decide)
 rw [show ofK ⟨#[]⟩ = -1 from by decide] at h
 exact h
set_option maxHeartbeats 4000000 in
set_option maxRecDepth 100000 in
theorem fall_d (R : At) (v : Value) (l : List (Int × Int)) (hR : ∀ W H, R.p W H → RowAt elemQ W v l) (part : Int) : Does Tryz.prog 5 #[.int .i64 part, v] [R] (.bool true) [R] := by
 intro w H hp
 have HM0 := Lib.hid (mem_refl hp)
 clear hp
 obtain ⟨p, cap, rfl, -⟩ := (HM0.out.row 0 rfl hR).form
 go_enter Tryz.func5, Tryz.ntmps5
 refine wp_seq (wQ ?_)
 refine wp_seq ?_
 obtain ⟨m, hm', hm16⟩ := mod_part part
 have hm := Lib.hid hm'
 clear hm'
 refine wN [(0, 1), (1, 1), (2, 1), (3, 1), (4, 1)] (wT [0, 1, 2] ?_)
 refine wT [3] ?_
 rw [hm.out]
 refine wT [4] ?_
 refine wZ (wp_seq (wN [(0, 3), (1, 3), (2, 1)] ?_))
 refine wU1 0 [_] Tryz.call9 (lnew_d 300) HM0 [] fun u3 W2 hm1 => ?_
 obtain ⟨dl, rfl, hm1q⟩ := Mem.lgN hm1
 clear hm1
 have HM4 := Lib.hid hm1q
 clear hm1q
 refine wU1 1 [_] Tryz.call8 (vopen_d dl (newL 300) (LgOk.new 300)) HM4 [0] fun u7 W6 hm5 => ?_
 obtain ⟨dv, rfl, hm5q⟩ := Mem.vtN hm5
 clear hm5
 have HM8 := Lib.hid hm5q
 clear hm5q
 refine wT [2] ?_
 refine wZ (wp_seq (wN [(0, 1), (1, 3), (2, 1)] (wT [0] ?_)))
 refine wU1 1 [_, _, _] Tryz.call12 (fnew_d (m : Int) ⟨by omega, by omega⟩) HM8 [] fun u11 W10 hm9 => ?_
 obtain ⟨c, rfl, hm9q⟩ := Mem.fdN hm9
 clear hm9
 have HM12 := Lib.hid hm9q
 clear hm9q
 refine wT [2] ?_
 refine wZ (wp_seq (wN [(0, 3), (1, 1)] ?_))
 refine wpS_mkM strK valB (i := 0) (dd := 28) rfl (by rfl) rfl HM12.out covS_nil rfl ?_
 rintro bs W14 hm13 -
 have HM15 := Lib.hid hm13
 clear hm13
 simp only [Act.put, List.setIfInBounds_toArray, List.set_cons_succ, List.set_cons_zero]
 refine wT [1] ?_
 refine wZ (wp_seq (wp_seq ?_))
 have HN := Lib.hid (Mem.nilL HM15.out)
 refine wQ ?_
 refine wp_cut_F [4, 8, 9, 10, 11, 12, 13, 14, 31, 32, 33, 34, 35, 36, 37, 38, 39, 40, 41, 42, 43, 44, 45, 46, 47, 48, 49, 50, 51, 52, 53, 54, 55, 56, 57, 58, 59, 60, 61, 62, 63, 64, 65, 66, 67, 68, 69, 70, 71, 72, 73, 74, 75, 76, 77, 78, 79, 80, 81, 82, 83, 84, 85, 86, 87, 88] (fun vs W' => ∃ (i : Nat) (X : Vl2) (F : Fd) (M : Mp ByteArray Hv) (rs : List At), i ≤ 80 ∧ Fa (m : Int) X F M (listT rs) i ∧ Mem [fdT c F, vtT dv dl X.1, lgT dl X.2, mapT strK valB bs M, listT rs, R] H w W') ?_ ?_
 ·refine wp_block ?_
  refine wp_loop_F [4, 8, 9, 10, 11, 12, 13, 14, 31, 32, 33, 34, 35, 36, 37, 38, 39, 40, 41, 42, 43, 44, 45, 46, 47, 48, 49, 50, 51, 52, 53, 54, 55, 56, 57, 58, 59, 60, 61, 62, 63, 64, 65, 66, 67, 68, 69, 70, 71, 72, 73, 74, 75, 76, 77, 78, 79, 80, 81, 82, 83, 84, 85, 86, 87, 88] (fun n vs W' => ∃ (i : Nat) (X : Vl2) (F : Fd) (M : Mp ByteArray Hv) (rs : List At), n = l.length - i ∧ vs 31 = .int .i64 (i : Int) ∧ i ≤ l.length ∧ i ≤ 80 ∧ Fa (m : Int) X F M (listT rs) i ∧ Mem [fdT c F, vtT dv dl X.1, lgT dl X.2, mapT strK valB bs M, listT rs, R] H w W') (n0 := l.length) ?_ ?_
  ·exact ⟨0, _, _, _, [], rfl, rfl, Nat.zero_le _, Nat.zero_le _, Fa.start ⟨by omega, by omega⟩, (Mem.only (M := [_, _, _, _, _, _]) HN.out [2, 2, 2, 1, 0, 0] rfl)⟩
  rintro n vs W' ⟨i, X, F, M, rs, rfl, e31, hi, hi80, hA', hm⟩
  simp only [putAll, List.map_cons, List.map_nil, Act.put, List.setIfInBounds_toArray, List.set_cons_succ, List.set_cons_zero]
  rw [e31]
  clear e31
  have hA := Lib.hid hA'
  clear hA'
  have HM16 := Lib.hid hm
  clear hm
  refine wp_seq (wQ ?_)
  refine wp_seq ?_
  refine wp_cond_split rfl (fun h17 => ?_) (fun h17 => ?_)
  ·have hi1 : i + 1 ≤ l.length := by have : (i : Int) < ((l.length : Nat) : Int) := (by simpa using h17); omega
   clear h17
   obtain ⟨y, hy'⟩ : ∃ y, l[i]? = some y := ⟨_, List.getElem?_eq_getElem (hi1)⟩
   have hy := Lib.hid hy'
   clear hy'
   refine wp_skip (then_normal (wp_seq (wp_block (wp_seq (wN [(0, 1), (1, 1), (2, 1), (3, 3), (4, 1), (5, 3)] (wT [0] ?_))))))
   refine wI elemQ 1 (HM16.out.row 5 rfl hR) (hy.out) fun eb18 eo19 hc20 => ?_
   refine wL 2 [.int .i64 y.1, .int .i64 y.2] hc20 Tryz.underlying37 ?_
   refine wpS_alloc (i := 3) (dd := 9) (z := .agg #[.int .i64 0, .int .i64 0]) (cs := #[.int .i64 0, .int .i64 0]) rfl (by rfl) rfl (by kernel_rfl) rfl HM16.out covS_nil rfl ?_
   rintro b23 W22 hm21 -
   have HM24 := Lib.hid hm21
   clear hm21
   simp only [Act.put, List.setIfInBounds_toArray, List.set_cons_succ, List.set_cons_zero]
   refine wT [4] ?_
   refine wXh 5 [_, _, _, _, _, _] [_, _] HM24 0 fun W26 HM27 => ?_
   refine wZ (wp_seq (wp_seq ?_))
   by_cases hi8 : 80 ≤ i
   ·have g8 : decide ((80 : Int) ≤ (i : Int)) = true := decide_eq_true (by omega)
    have g8' : decide (80 ≤ i) = true := decide_eq_true hi8
    refine wQ ?_
    refine wp_cond_true rfl (wp_exit ?_)
    refine then_exit (block_out (by decide) (then_exit (then_exit (block_exit ?_))))
    refine then_normal ?_
    refine ⟨by kernel_rfl, ?_⟩
    exact ⟨i, X, F, M, rs, hi80, hA.out, (Mem.only (M := [_, _, _, _, _, _]) HM27.out [1, 1, 1, 1, 1, 1] rfl)⟩
   ·have g8 : decide ((80 : Int) ≤ (i : Int)) = false := decide_eq_false (by omega)
    have g8' : decide (80 ≤ i) = false := decide_eq_false hi8
    refine wQ ?_
    refine wp_cond_false rfl (wp_skip (then_normal (wp_seq (wN [(0, 1), (1, 1), (2, 3), (3, 1)] ?_))))
    have Cb9 := Mem.cell HM27.out 0 rfl
    refine wT [0, 1] ?_
    clear Cb9
    refine wD1h 2 [_, _, _, _, _, _, _] [_, _, _, _, _, _, _] Tryz.call15 (key_d y.2) HM27 [] fun W29 HM30 => ?_
    refine wT [3] ?_
    refine wZ (wp_seq (wp_seq ?_))
    rcases (show y.1 = 0 ∨ y.1 = 1 ∨ (y.1 ≠ 0 ∧ y.1 ≠ 1) from by omega) with h0 | h0 | ⟨h0, h1⟩
    ·have g10 : (y.1 == 0) = true := beq_iff_eq.2 h0
     replace h0 := Lib.hid h0
     have Cb9 := Mem.cell HM30.out 0 rfl
     refine wQ ?_
     clear Cb9
     refine wp_cond_true rfl (wp_seq ?_)
     rcases hA.out.step with ⟨F2, k, hn2', hkm', hF2', hp2', hlt', hst'⟩ | ⟨hnn', hdd', hoo'⟩
     ·have hn2 := Lib.hid hn2'
      clear hn2'
      have hkm := Lib.hid hkm'
      clear hkm'
      have hF2 := Lib.hid hF2'
      clear hF2'
      have hp2 := Lib.hid hp2'
      clear hp2'
      have hlt := Lib.hid hlt'
      clear hlt'
      have hst := Lib.hid hst'
      clear hst'
      have hkk := Lib.hid (hA.out.key hkm.out)
      refine wN [(0, 1), (1, 1), (2, 3), (3, 1), (4, 1), (5, 1), (6, 3), (7, 3), (8, 1)] (wT [0, 1] ?_)
      refine wU2 2 [_, _, _, _, _] Tryz.call16 (fnext_s hA.out.fd hA.out.kept.ok (hA.out.bl (by omega)) hn2.out) HM30 [1, 1] fun u33 W32 hm31 => ?_
      obtain ⟨pw, cw, rfl, hm31q⟩ := Mem.pair rfl hm31
      clear hm31
      have HM34 := Lib.hid hm31q
      clear hm31q
      refine wT [3, 4, 5] ?_
      refine wpS_alloc (i := 6) (dd := 11) (z := prV ⟨#[]⟩ noB.k (.slice none 0 0)) (cs := (prC ⟨#[]⟩ noB.k (.slice none 0 0)).toArray) rfl (by rfl) rfl (by kernel_rfl) rfl HM34.out covS_nil rfl ?_
      rintro b37 W36 hm35 -
      have HM38 := Lib.hid hm35
      clear hm35
      simp only [Act.put, List.setIfInBounds_toArray, List.set_cons_succ, List.set_cons_zero]
      refine wXkh (hone := (prC_one _ _ _)) 7 [_, _, _, _, _, _, _, _] (prC k (bagV X.1 k).k (.slice pw (bagV X.1 k).v.length cw)) HM38 0 fun W40 HM41 => ?_
      refine wT [8] ?_
      refine wZ (wp_seq (wp_seq (wQ ?_)))
      refine wp_cond_true rfl (wp_seq (wp_seq ?_))
      have hbv : Hid ((bagV X.1 k).v.length ≤ 4398046510976) := Lib.hid (Nat.le_trans (bagV_len hA.out.kept.ok k) (by decide))
      refine wp_region_M (fun k => k ∈ ([b37] : List Nat)) [(0, 1), (1, 1), (3, 0), (2, 3), (4, 1), (5, 1), (6, 0), (7, 2), (8, 1), (9, 1), (10, 1), (11, 3), (12, 3), (13, 1), (14, 1)] (by kernel_rfl) (by kernel_rfl) HM41.out ?_
      intro W42 hm43
      have HM44 := Lib.hid hm43
      clear hm43
      refine wT [0] ?_
      refine wM 1 (.string k) (HM44.out.part1 0 rfl prC_key) Tryz.underlying9 ?_
      refine wA [3] ?_
      refine wD1 (hS := (covS_box 0 rfl covS_nil)) 2 [_, _, _, _, _, _, _, _, _] [_, _, _, _, _, _, _, _, _] Tryz.call28 (spof_d k hkk.out.1) HM44 [] fun W46 hm45 => ?_
      rw [hkk.out.2]
      have HM48 := Lib.hid hm45
      clear hm45
      refine wT [4] ?_
      refine wT [5] ?_
      refine wA [6] ?_
      refine wL2 7 (bgC (bagV X.1 k).k (.slice pw (bagV X.1 k).v.length cw)) (HM48.out.part 0 rfl (prC_bag)) Tryz.underlying43 ?_
      refine wT [8, 9] ?_
      refine wM 10 (.string k) (HM48.out.part1 0 rfl prC_key) Tryz.underlying9 ?_
      refine wU2 (hS := (covS_box 0 rfl covS_nil)) 11 [_, _, _, _, _, _, _, _] Tryz.call29 (vbag_e hA.out.kept.ok rfl) HM48 [3] fun u52 W50 hm49 => ?_
      obtain ⟨pb, cb, rfl, hm49q⟩ := Mem.bag rfl hm49
      clear hm49
      have HM53 := Lib.hid hm49q
      clear hm49q
      refine wD2 (hS := (covS_box 1 rfl covS_nil)) 12 [_, _, _, _, _, _, _, _] [_, _, _, _, _, _, _, _, _, _] Tryz.call18 (Does.ofList (bsame_d (listT [_, _]) _ (bagV X.1 k) (vL 0 rfl rowT_reads) hbv.out _ (bagV X.1 k) (vL 1 rfl rowT_reads) hbv.out)) HM53 [3, 0] fun W55 hm54 => ?_
      rw [sameB_self]
      have HM57 := Lib.hid hm54
      clear hm54
      refine wT [13, 14] ?_
      refine wZ (wp_cond_false rfl (wp_skip (then_normal (wN [(0, 1), (1, 1), (2, 1), (3, 1), (4, 1), (5, 3)] (wT [0, 1] ?_)))))
      refine wM 2 (.string k) (HM57.out.part1 3 rfl prC_key) Tryz.underlying9 ?_
      refine wT [3] ?_
      refine wL 4 (bgC (bagV X.1 k).k (.slice pw (bagV X.1 k).v.length cw)) (HM57.out.part 3 rfl (prC_bag)) Tryz.underlying43 ?_
      refine wpS_putM (i := 5) (k := k) (v := (⟨bagV X.1 k, pw, (bagV X.1 k).v.length, cw⟩ : Hv)) (L2 := [_, _, _, _, _, _, _, _, _]) Tryz.underlying66 rfl (by rfl) rfl rfl rfl rfl HM57.out 7 rfl rfl covS_nil rfl ?_
      rintro W59 hm58 -
      have HM60 := Lib.hid hm58
      clear hm58
      refine wZ (wp_exit ?_)
      refine then_exit (block_exit ?_)
      refine then_normal (wQ ?_)
      refine ⟨by kernel_rfl, ?_⟩
      exact ⟨l.length - (i + 1), by omega, i + 1, X, F2, _, _, rfl, rfl, hi1, (by omega), hst.out (rowT elemV (.slice pw (bagV X.1 k).v.length cw) (bagV X.1 k).v) _ _ _ rowT_reads, (Mem.only (M := [_, _, _, _, _, _]) (Mem.cons1 (Mem.only (M := [_, _, _, _, _, _, _]) HM60.out [1, 7, 4, 2, 4, 0, 3] rfl)) [1, 1, 1, 1, 0, 0] rfl)⟩
     ·have hnn := Lib.hid hnn'
      clear hnn'
      have hdd := Lib.hid hdd'
      clear hdd'
      have hoo := Lib.hid hoo'
      clear hoo'
      refine wN [(0, 1), (1, 1), (2, 3), (3, 1), (4, 1), (5, 1), (6, 3), (7, 3), (8, 1)] (wT [0, 1] ?_)
      refine wU2 2 [_, _, _, _, _] Tryz.call16 (fnext_n hA.out.fd hA.out.kept.ok (hA.out.bl (by omega)) hnn.out) HM30 [1, 1] fun u63 W62 hm61 => ?_
      obtain ⟨pw, cw, rfl, hm61q⟩ := Mem.pair rfl hm61
      clear hm61
      have HM64 := Lib.hid hm61q
      clear hm61q
      refine wT [3, 4, 5] ?_
      refine wpS_alloc (i := 6) (dd := 11) (z := prV ⟨#[]⟩ noB.k (.slice none 0 0)) (cs := (prC ⟨#[]⟩ noB.k (.slice none 0 0)).toArray) rfl (by rfl) rfl (by kernel_rfl) rfl HM64.out covS_nil rfl ?_
      rintro b67 W66 hm65 -
      have HM68 := Lib.hid hm65
      clear hm65
      simp only [Act.put, List.setIfInBounds_toArray, List.set_cons_succ, List.set_cons_zero]
      refine wXkh (hone := (prC_one _ _ _)) 7 [_, _, _, _, _, _, _, _] (prC ⟨#[]⟩ noB.k (.slice pw noB.v.length cw)) HM68 0 fun W70 HM71 => ?_
      refine wT [8] ?_
      refine wZ (wp_seq (wp_seq (wQ ?_)))
      refine wp_cond_false rfl (wp_skip (then_normal (wp_exit ?_)))
      refine then_exit (block_exit ?_)
      refine then_normal (wQ ?_)
      refine ⟨by kernel_rfl, ?_⟩
      exact ⟨l.length - (i + 1), by omega, i + 1, X, F, M, rs, rfl, rfl, hi1, (by omega), hA.out.more, (Mem.only (M := [_, _, _, _, _, _]) HM71.out [2, 2, 3, 3, 3, 3] rfl)⟩
    ·have g10 : (y.1 == 0) = false := beq_eq_false_iff_ne.2 (by omega)
     have g11 : (y.1 == 1) = true := beq_iff_eq.2 h0
     replace h0 := Lib.hid h0
     have Cb9 := Mem.cell HM30.out 0 rfl
     refine wQ ?_
     clear Cb9
     refine wp_cond_true rfl (wp_seq ?_)
     rcases hA.out.step with ⟨F2, k, hn2', hkm', hF2', hp2', hlt', hst'⟩ | ⟨hnn', hdd', hoo'⟩
     ·have hn2 := Lib.hid hn2'
      clear hn2'
      have hkm := Lib.hid hkm'
      clear hkm'
      have hF2 := Lib.hid hF2'
      clear hF2'
      have hp2 := Lib.hid hp2'
      clear hp2'
      have hlt := Lib.hid hlt'
      clear hlt'
      have hst := Lib.hid hst'
      clear hst'
      have hkk := Lib.hid (hA.out.key hkm.out)
      refine wN [(0, 1), (1, 1), (2, 3), (3, 1), (4, 1), (5, 1), (6, 3), (7, 3), (8, 1)] (wT [0, 1] ?_)
      refine wU2 2 [_, _, _, _, _] Tryz.call16 (fnext_s hA.out.fd hA.out.kept.ok (hA.out.bl (by omega)) hn2.out) HM30 [1, 1] fun u74 W73 hm72 => ?_
      obtain ⟨pw, cw, rfl, hm72q⟩ := Mem.pair rfl hm72
      clear hm72
      have HM75 := Lib.hid hm72q
      clear hm72q
      refine wT [3, 4, 5] ?_
      refine wpS_alloc (i := 6) (dd := 11) (z := prV ⟨#[]⟩ noB.k (.slice none 0 0)) (cs := (prC ⟨#[]⟩ noB.k (.slice none 0 0)).toArray) rfl (by rfl) rfl (by kernel_rfl) rfl HM75.out covS_nil rfl ?_
      rintro b78 W77 hm76 -
      have HM79 := Lib.hid hm76
      clear hm76
      simp only [Act.put, List.setIfInBounds_toArray, List.set_cons_succ, List.set_cons_zero]
      refine wXkh (hone := (prC_one _ _ _)) 7 [_, _, _, _, _, _, _, _] (prC k (bagV X.1 k).k (.slice pw (bagV X.1 k).v.length cw)) HM79 0 fun W81 HM82 => ?_
      refine wT [8] ?_
      refine wZ (wp_seq (wp_seq (wQ ?_)))
      refine wp_cond_true rfl (wp_seq (wp_seq ?_))
      have hbv : Hid ((bagV X.1 k).v.length ≤ 4398046510976) := Lib.hid (Nat.le_trans (bagV_len hA.out.kept.ok k) (by decide))
      refine wp_region_M (fun k => k ∈ ([b78] : List Nat)) [(0, 1), (1, 1), (3, 0), (2, 3), (4, 1), (5, 1), (6, 0), (7, 2), (8, 1), (9, 1), (10, 1), (11, 3), (12, 3), (13, 1), (14, 1)] (by kernel_rfl) (by kernel_rfl) HM82.out ?_
      intro W83 hm84
      have HM85 := Lib.hid hm84
      clear hm84
      refine wT [0] ?_
      refine wM 1 (.string k) (HM85.out.part1 0 rfl prC_key) Tryz.underlying9 ?_
      refine wA [3] ?_
      refine wD1 (hS := (covS_box 0 rfl covS_nil)) 2 [_, _, _, _, _, _, _, _, _] [_, _, _, _, _, _, _, _, _] Tryz.call28 (spof_d k hkk.out.1) HM85 [] fun W87 hm86 => ?_
      rw [hkk.out.2]
      have HM89 := Lib.hid hm86
      clear hm86
      refine wT [4] ?_
      refine wT [5] ?_
      refine wA [6] ?_
      refine wL2 7 (bgC (bagV X.1 k).k (.slice pw (bagV X.1 k).v.length cw)) (HM89.out.part 0 rfl (prC_bag)) Tryz.underlying43 ?_
      refine wT [8, 9] ?_
      refine wM 10 (.string k) (HM89.out.part1 0 rfl prC_key) Tryz.underlying9 ?_
      refine wU2 (hS := (covS_box 0 rfl covS_nil)) 11 [_, _, _, _, _, _, _, _] Tryz.call29 (vbag_e hA.out.kept.ok rfl) HM89 [3] fun u93 W91 hm90 => ?_
      obtain ⟨pb, cb, rfl, hm90q⟩ := Mem.bag rfl hm90
      clear hm90
      have HM94 := Lib.hid hm90q
      clear hm90q
      refine wD2 (hS := (covS_box 1 rfl covS_nil)) 12 [_, _, _, _, _, _, _, _] [_, _, _, _, _, _, _, _, _, _] Tryz.call18 (Does.ofList (bsame_d (listT [_, _]) _ (bagV X.1 k) (vL 0 rfl rowT_reads) hbv.out _ (bagV X.1 k) (vL 1 rfl rowT_reads) hbv.out)) HM94 [3, 0] fun W96 hm95 => ?_
      rw [sameB_self]
      have HM98 := Lib.hid hm95
      clear hm95
      refine wT [13, 14] ?_
      refine wZ (wp_cond_false rfl (wp_skip (then_normal (wN [(0, 1), (1, 1), (2, 1), (3, 1), (4, 1), (5, 3)] (wT [0, 1] ?_)))))
      refine wM 2 (.string k) (HM98.out.part1 3 rfl prC_key) Tryz.underlying9 ?_
      refine wT [3] ?_
      refine wL 4 (bgC (bagV X.1 k).k (.slice pw (bagV X.1 k).v.length cw)) (HM98.out.part 3 rfl (prC_bag)) Tryz.underlying43 ?_
      refine wpS_putM (i := 5) (k := k) (v := (⟨bagV X.1 k, pw, (bagV X.1 k).v.length, cw⟩ : Hv)) (L2 := [_, _, _, _, _, _, _, _, _]) Tryz.underlying66 rfl (by rfl) rfl rfl rfl rfl HM98.out 7 rfl rfl covS_nil rfl ?_
      rintro W100 hm99 -
      have HM101 := Lib.hid hm99
      clear hm99
      refine wZ (wp_exit ?_)
      refine then_exit (block_exit ?_)
      refine then_normal (wQ ?_)
      refine ⟨by kernel_rfl, ?_⟩
      exact ⟨l.length - (i + 1), by omega, i + 1, X, F2, _, _, rfl, rfl, hi1, (by omega), hst.out (rowT elemV (.slice pw (bagV X.1 k).v.length cw) (bagV X.1 k).v) _ _ _ rowT_reads, (Mem.only (M := [_, _, _, _, _, _]) (Mem.cons1 (Mem.only (M := [_, _, _, _, _, _, _]) HM101.out [1, 7, 4, 2, 4, 0, 3] rfl)) [1, 1, 1, 1, 0, 0] rfl)⟩
     ·have hnn := Lib.hid hnn'
      clear hnn'
      have hdd := Lib.hid hdd'
      clear hdd'
      have hoo := Lib.hid hoo'
      clear hoo'
      refine wN [(0, 1), (1, 1), (2, 3), (3, 1), (4, 1), (5, 1), (6, 3), (7, 3), (8, 1)] (wT [0, 1] ?_)
      refine wU2 2 [_, _, _, _, _] Tryz.call16 (fnext_n hA.out.fd hA.out.kept.ok (hA.out.bl (by omega)) hnn.out) HM30 [1, 1] fun u104 W103 hm102 => ?_
      obtain ⟨pw, cw, rfl, hm102q⟩ := Mem.pair rfl hm102
      clear hm102
      have HM105 := Lib.hid hm102q
      clear hm102q
      refine wT [3, 4, 5] ?_
      refine wpS_alloc (i := 6) (dd := 11) (z := prV ⟨#[]⟩ noB.k (.slice none 0 0)) (cs := (prC ⟨#[]⟩ noB.k (.slice none 0 0)).toArray) rfl (by rfl) rfl (by kernel_rfl) rfl HM105.out covS_nil rfl ?_
      rintro b108 W107 hm106 -
      have HM109 := Lib.hid hm106
      clear hm106
      simp only [Act.put, List.setIfInBounds_toArray, List.set_cons_succ, List.set_cons_zero]
      refine wXkh (hone := (prC_one _ _ _)) 7 [_, _, _, _, _, _, _, _] (prC ⟨#[]⟩ noB.k (.slice pw noB.v.length cw)) HM109 0 fun W111 HM112 => ?_
      refine wT [8] ?_
      refine wZ (wp_seq (wp_seq (wQ ?_)))
      refine wp_cond_false rfl (wp_skip (then_normal (wp_exit ?_)))
      refine then_exit (block_exit ?_)
      refine then_normal (wQ ?_)
      refine ⟨by kernel_rfl, ?_⟩
      exact ⟨l.length - (i + 1), by omega, i + 1, X, F, M, rs, rfl, rfl, hi1, (by omega), hA.out.more, (Mem.only (M := [_, _, _, _, _, _]) HM112.out [2, 2, 3, 3, 3, 3] rfl)⟩
    ·have g10 : (y.1 == 0) = false := beq_eq_false_iff_ne.2 h0
     have g11 : (y.1 == 1) = false := beq_eq_false_iff_ne.2 h1
     replace h0 := Lib.hid h0
     replace h1 := Lib.hid h1
     have Cb9 := Mem.cell HM30.out 0 rfl
     refine wQ ?_
     clear Cb9
     refine wp_cond_false rfl (wp_skip (then_normal (wp_seq ?_)))
     obtain ⟨Y, d, e, hpv'⟩ : ∃ a b c, putV X 0 (keyN y.2) (fun _ => 0) kV9 = (a, b, c) := ⟨_, _, _, rfl⟩
     have hpv := Lib.hid hpv'
     clear hpv'
     refine wN [(0, 1), (1, 1), (2, 1), (3, 3), (4, 1), (5, 1), (6, 1), (7, 3), (8, 3), (9, 1)] (wT [0, 1] ?_)
     refine wR 2 (v := vV (fun _ => 0)) (by kernel_rfl) ?_
     refine wD5h 3 [_, _, _, _, _] [_, _, _, _, _, _, _] Tryz.call25 (vput_e hA.out.kept hpv.out) HM30 [2, 2] fun W114 HM115 => ?_
     refine wT [4, 5, 6] ?_
     refine wpS_alloc (i := 7) (dd := 13) (z := .agg #[.int .i64 0, .int .i64 0]) (cs := #[.int .i64 0, .int .i64 0]) rfl (by rfl) rfl (by kernel_rfl) rfl HM115.out covS_nil rfl ?_
     rintro b118 W117 hm116 -
     have HM119 := Lib.hid hm116
     clear hm116
     simp only [Act.put, List.setIfInBounds_toArray, List.set_cons_succ, List.set_cons_zero]
     refine wXh 8 [_, _, _, _, _, _, _] [_, _] HM119 0 fun W121 HM122 => ?_
     refine wT [9] ?_
     refine wZ (wp_seq ?_)
     by_cases he : e = 0
     ·subst he
      refine wQ ?_
      refine wp_cond_true rfl (wN [(0, 1), (1, 1), (2, 3)] (wT [0, 1] ?_))
      refine wD2h 2 [_, _, _, _, _, _, _] [_, _, _, _, _, _, _, _] Tryz.call19 (fback_d c F hA.out.fd (keyN y.2) (keyN_key y.2) (by have := hA.out.rest_le; unfold restF at this; omega)) HM122 [4] fun W124 HM125 => ?_
      refine wpS_nil (block_normal (then_normal (wQ ?_)))
      refine ⟨by kernel_rfl, ?_⟩
      exact ⟨l.length - (i + 1), by omega, i + 1, Y, _, M, rs, rfl, rfl, hi1, (by omega), hA.out.put hpv.out, (Mem.only (M := [_, _, _, _, _, _]) HM125.out [0, 1, 1, 2, 2, 2] rfl)⟩
     ·have hen := Lib.hid he
      have g17 : (e == 0) = false := beq_eq_false_iff_ne.2 he
      clear he
      refine wQ ?_
      refine wp_cond_false rfl (wp_skip (block_normal (then_normal (wQ ?_))))
      refine ⟨by kernel_rfl, ?_⟩
      obtain rfl := (put_no hpv.out hen.out).symm
      exact ⟨l.length - (i + 1), by omega, i + 1, X, F, M, rs, rfl, rfl, hi1, (by omega), hA.out.more, (Mem.only (M := [_, _, _, _, _, _]) HM122.out [4, 1, 1, 2, 2, 2] rfl)⟩
  ·have hgi : l.length ≤ i := by have : ¬ (i : Int) < (l.length : Int) := (by simpa using h17); omega
   clear h17
   refine wp_exit ?_
   refine then_exit (then_exit (block_exit ?_))
   refine then_normal ?_
   refine ⟨by kernel_rfl, ?_⟩
   exact ⟨i, X, F, M, rs, hi80, hA.out, (Mem.only (M := [_, _, _, _, _, _]) HM16.out [0, 0, 0, 0, 0, 0] rfl)⟩
 ·rintro vs W' ⟨i, X, F, M, rs, hi80, hA', hm⟩
  simp only [putAll, List.map_cons, List.map_nil, Act.put, List.setIfInBounds_toArray, List.set_cons_succ, List.set_cons_zero]
  have hA := Lib.hid hA'
  clear hA'
  have hr2 := hA.out.rest_le
  have HM126 := Lib.hid hm
  clear hm
  refine then_normal (wp_seq (wp_seq (wQ ?_)))
  refine wp_cut_F [15, 16, 89, 90, 91, 92, 93, 94, 95, 96, 97, 98, 99, 100, 101, 102, 103, 104] (fun us W' => ∃ (q : Nat) (F : Fd) (M : Mp ByteArray Hv) (rs : List At), q ≤ 280 ∧ Fa (m : Int) X F M (listT rs) q ∧ nextF F (keysV X.1 F.part) = (F, none) ∧ F.due = [] ∧ overF F (keysV X.1 F.part) = true ∧ Mem [fdT c F, vtT dv dl X.1, lgT dl X.2, mapT strK valB bs M, listT rs, R] H w W') ?_ ?_
  ·refine wp_block ?_
   refine wp_loop_F [15, 16, 89, 90, 91, 92, 93, 94, 95, 96, 97, 98, 99, 100, 101, 102, 103, 104] (fun n us W' => ∃ (j q : Nat) (F : Fd) (M : Mp ByteArray Hv) (rs : List At), n = 200 - j ∧ us 89 = .int .i64 (j : Int) ∧ j ≤ 200 ∧ q ≤ 80 + j ∧ restF F (keysV X.1 (m : Int)) + j ≤ 160 ∧ Fa (m : Int) X F M (listT rs) q ∧ Mem [fdT c F, vtT dv dl X.1, lgT dl X.2, mapT strK valB bs M, listT rs, R] H w W') (n0 := 200) ?_ ?_
   ·exact ⟨0, i, F, M, rs, rfl, rfl, Nat.zero_le _, (by omega), (by omega), hA.out, (Mem.only (M := [_, _, _, _, _, _]) HM126.out [0, 0, 0, 0, 0, 0] rfl)⟩
   rintro n us W' ⟨j, q, F, M, rs, rfl, e89, hj, hq, hr, hB', hm2⟩
   simp only [putAll, List.map_cons, List.map_nil, Act.put, List.setIfInBounds_toArray, List.set_cons_succ, List.set_cons_zero]
   rw [e89]
   clear e89
   have hB := Lib.hid hB'
   clear hB'
   have HM127 := Lib.hid hm2
   clear hm2
   refine wp_seq (wQ ?_)
   refine wp_seq ?_
   refine wp_cond_split rfl (fun h128 => ?_) (fun h128 => ?_)
   ·have hj1 : j + 1 ≤ 200 := by have : (j : Int) < ((200 : Nat) : Int) := (by simpa using h128); omega
    clear h128
    refine wp_skip (then_normal (wp_seq (wp_block (wp_seq ?_))))
    rcases hB.out.step with ⟨F2, k, hn2', hkm', hF2', hp2', hlt', hst'⟩ | ⟨hnn', hdd', hoo'⟩
    ·have hn2 := Lib.hid hn2'
     clear hn2'
     have hkm := Lib.hid hkm'
     clear hkm'
     have hF2 := Lib.hid hF2'
     clear hF2'
     have hp2 := Lib.hid hp2'
     clear hp2'
     have hlt := Lib.hid hlt'
     clear hlt'
     have hst := Lib.hid hst'
     clear hst'
     have hkk := Lib.hid (hB.out.key hkm.out)
     refine wN [(0, 1), (1, 1), (2, 3), (3, 1), (4, 1), (5, 1), (6, 3), (7, 3), (8, 1)] (wT [0, 1] ?_)
     refine wU2 2 [_, _, _, _] Tryz.call16 (fnext_s hB.out.fd hB.out.kept.ok (hB.out.bl (by omega)) hn2.out) HM127 [0, 0] fun u131 W130 hm129 => ?_
     obtain ⟨pw, cw, rfl, hm129q⟩ := Mem.pair rfl hm129
     clear hm129
     have HM132 := Lib.hid hm129q
     clear hm129q
     refine wT [3, 4, 5] ?_
     refine wpS_alloc (i := 6) (dd := 15) (z := prV ⟨#[]⟩ noB.k (.slice none 0 0)) (cs := (prC ⟨#[]⟩ noB.k (.slice none 0 0)).toArray) rfl (by rfl) rfl (by kernel_rfl) rfl HM132.out covS_nil rfl ?_
     rintro b135 W134 hm133 -
     have HM136 := Lib.hid hm133
     clear hm133
     simp only [Act.put, List.setIfInBounds_toArray, List.set_cons_succ, List.set_cons_zero]
     refine wXkh (hone := (prC_one _ _ _)) 7 [_, _, _, _, _, _, _] (prC k (bagV X.1 k).k (.slice pw (bagV X.1 k).v.length cw)) HM136 0 fun W138 HM139 => ?_
     refine wT [8] ?_
     refine wZ (wp_seq (wp_seq (wQ ?_)))
     refine wp_cond_false rfl (wp_skip (then_normal (wN [(0, 1), (1, 1), (2, 1), (3, 1), (4, 1), (5, 3)] (wT [0, 1] ?_))))
     refine wM 2 (.string k) (HM139.out.part1 0 rfl prC_key) Tryz.underlying9 ?_
     refine wT [3] ?_
     refine wL 4 (bgC (bagV X.1 k).k (.slice pw (bagV X.1 k).v.length cw)) (HM139.out.part 0 rfl (prC_bag)) Tryz.underlying43 ?_
     refine wpS_putM (i := 5) (k := k) (v := (⟨bagV X.1 k, pw, (bagV X.1 k).v.length, cw⟩ : Hv)) (L2 := [_, _, _, _, _, _, _]) Tryz.underlying66 rfl (by rfl) rfl rfl rfl rfl HM139.out 5 rfl rfl covS_nil rfl ?_
     rintro W141 hm140 -
     have HM142 := Lib.hid hm140
     clear hm140
     refine wpS_nil (block_normal (then_normal (wQ ?_)))
     refine ⟨by kernel_rfl, ?_⟩
     exact ⟨200 - (j + 1), by omega, j + 1, q + 1, F2, _, _, rfl, rfl, hj1, (by omega), (by have := hlt.out; omega), hst.out (rowT elemV (.slice pw (bagV X.1 k).v.length cw) (bagV X.1 k).v) _ _ _ rowT_reads, (Mem.only (M := [_, _, _, _, _, _]) (Mem.cons1 (Mem.only (M := [_, _, _, _, _, _, _]) HM142.out [2, 5, 2, 2, 2, 0, 1] rfl)) [1, 1, 1, 1, 0, 0] rfl)⟩
    ·have hnn := Lib.hid hnn'
     clear hnn'
     have hdd := Lib.hid hdd'
     clear hdd'
     have hoo := Lib.hid hoo'
     clear hoo'
     refine wN [(0, 1), (1, 1), (2, 3), (3, 1), (4, 1), (5, 1), (6, 3), (7, 3), (8, 1)] (wT [0, 1] ?_)
     refine wU2 2 [_, _, _, _] Tryz.call16 (fnext_n hB.out.fd hB.out.kept.ok (hB.out.bl (by omega)) hnn.out) HM127 [0, 0] fun u145 W144 hm143 => ?_
     obtain ⟨pw, cw, rfl, hm143q⟩ := Mem.pair rfl hm143
     clear hm143
     have HM146 := Lib.hid hm143q
     clear hm143q
     refine wT [3, 4, 5] ?_
     refine wpS_alloc (i := 6) (dd := 15) (z := prV ⟨#[]⟩ noB.k (.slice none 0 0)) (cs := (prC ⟨#[]⟩ noB.k (.slice none 0 0)).toArray) rfl (by rfl) rfl (by kernel_rfl) rfl HM146.out covS_nil rfl ?_
     rintro b149 W148 hm147 -
     have HM150 := Lib.hid hm147
     clear hm147
     simp only [Act.put, List.setIfInBounds_toArray, List.set_cons_succ, List.set_cons_zero]
     refine wXkh (hone := (prC_one _ _ _)) 7 [_, _, _, _, _, _, _] (prC ⟨#[]⟩ noB.k (.slice pw noB.v.length cw)) HM150 0 fun W152 HM153 => ?_
     refine wT [8] ?_
     refine wZ (wp_seq (wp_seq (wQ ?_)))
     refine wp_cond_true rfl (wp_exit ?_)
     refine then_exit (block_out (by decide) (then_exit (then_exit (block_exit ?_))))
     refine then_normal ?_
     refine ⟨by kernel_rfl, ?_⟩
     exact ⟨q, F, M, rs, (by omega), hB.out, hnn.out, hdd.out, hoo.out, (Mem.only (M := [_, _, _, _, _, _]) HM153.out [2, 2, 2, 2, 2, 2] rfl)⟩
   ·have hge2 : Hid (200 ≤ j) := Lib.hid (by have : ¬ (j : Int) < 200 := (by simpa using h128); omega)
    clear h128
    refine wp_exit ?_
    refine then_exit (then_exit (block_exit ?_))
    refine then_normal ?_
    refine ⟨by kernel_rfl, ?_⟩
    exfalso
    have := hge2.out
    omega
  ·rintro us W' ⟨q, F, M, rs, hq280, hC', hnn', hdd', hoo', hm⟩
   simp only [putAll, List.map_cons, List.map_nil, Act.put, List.setIfInBounds_toArray, List.set_cons_succ, List.set_cons_zero]
   have hC := Lib.hid hC'
   clear hC'
   have hnn := Lib.hid hnn'
   clear hnn'
   have hdd := Lib.hid hdd'
   clear hdd'
   have hoo := Lib.hid hoo'
   clear hoo'
   have hend := Lib.hid (hC.out.end_ (by rw [← hC.out.part, hnn.out]))
   have hbl : Hid (X.1.b.length ≤ 3000) := Lib.hid (hC.out.bl (by omega))
   have HM154 := Lib.hid hm
   clear hm
   refine then_normal (wp_seq ?_)
   obtain ⟨ks, hks'⟩ : ∃ z, keysV X.1 (m : Int) = z := ⟨_, rfl⟩
   have hkl : ks.length ≤ 280 := by rw [← hks']; exact Nat.le_trans hC.out.klen hq280
   have hks := Lib.hid hks'
   clear hks'
   have hml : Hid ((M.es.length : Int) = (ks.length : Int)) := Lib.hid (by rw [hend.out.1, hks.out])
   refine wN [(0, 1), (1, 1), (2, 3), (3, 1)] (wT [0, 1] ?_)
   refine wU2 2 [_, _, _, _, _] Tryz.call30 (vkeys_e hC.out.kept.ok hbl.out hks.out) HM154 [1] fun u157 W156 hm155 => ?_
   obtain ⟨pk, ck, rfl, hm155q⟩ := Mem.texts rfl hm155
   clear hm155
   have HM158 := Lib.hid hm155q
   clear hm155q
   refine wT [3] ?_
   refine wZ (wp_seq (wp_seq (wQ ?_)))
   refine wp_block ?_
   refine wp_loop_F [4, 19, 110, 111, 112, 113, 114, 115, 116, 117, 118, 119, 120, 121, 122] (fun n ts W' => ∃ j : Nat, n = ks.length - j ∧ ts 110 = .int .i64 (j : Int) ∧ j ≤ ks.length ∧ Mem [rowT elemS (.slice pk ks.length ck) ks, fdT c F, vtT dv dl X.1, lgT dl X.2, mapT strK valB bs M, listT rs, R] H w W') (n0 := ks.length) ?_ ?_
   ·exact ⟨0, rfl, rfl, Nat.zero_le _, (Mem.only (M := [_, _, _, _, _, _, _]) HM158.out [0, 1, 0, 0, 0, 0, 0] rfl)⟩
   rintro n ts W' ⟨j, rfl, e110, hj, hm3⟩
   simp only [putAll, List.map_cons, List.map_nil, Act.put, List.setIfInBounds_toArray, List.set_cons_succ, List.set_cons_zero]
   rw [e110]
   clear e110
   have HM159 := Lib.hid hm3
   clear hm3
   refine wp_seq (wQ ?_)
   refine wp_seq ?_
   refine wp_cond_split rfl (fun h160 => ?_) (fun h160 => ?_)
   ·have hj1 : j + 1 ≤ ks.length := by have : (j : Int) < ((ks.length : Nat) : Int) := (by simpa using h160); omega
    clear h160
    obtain ⟨k, hk'⟩ : ∃ y, ks[j]? = some y := ⟨_, List.getElem?_eq_getElem (hj1)⟩
    have hk := Lib.hid hk'
    clear hk'
    refine wp_skip (then_normal (wp_seq (wp_block (wp_seq (wN [(0, 1), (1, 1), (2, 1)] ?_)))))
    refine wI elemS 0 (HM159.out.row 0 rfl vRow) (hk.out) fun eb161 eo162 hc163 => ?_
    refine wM 1 (.string k) (hc163 0 _ rfl) Tryz.underlying9 ?_
    refine wT [2] ?_
    refine wZ (wp_seq ?_)
    obtain ⟨x, hmx', hxb'⟩ := hend.out.2 k (by rw [hks.out]; exact List.mem_of_getElem? hk.out)
    have hrx := Lib.hid (by obtain ⟨nn, hnn2⟩ := getE_mem hmx'; exact hC.out.rd _ hnn2 : Reads elemV (listT rs) (.slice x.p x.n x.c) x.b.v ∧ x.b.v.length ≤ 32)
    have hlx : Hid (x.b.v.length ≤ 4398046510976) := Lib.hid (Nat.le_trans hrx.out.2 (by decide))
    have hxb : Hid (bagV X.1 k = x.b) := Lib.hid hxb'.symm
    clear hxb'
    have hmx := Lib.hid hmx'
    clear hmx'
    refine wp_cut_F [114, 115, 116, 117, 118, 119, 120, 121] (fun vs W' => vs 121 = .bool false ∧ Mem [rowT elemS (.slice pk ks.length ck) ks, fdT c F, vtT dv dl X.1, lgT dl X.2, mapT strK valB bs M, listT rs, R] H w W') ?_ ?_
    ·refine wp_region_taken [] (fun k => k ∈ ([bs] : List Nat)) (by kernel_rfl) rfl rfl ?_
     have hm164 := HM159.out.drew
     have HM165 := Lib.hid hm164
     clear hm164
     refine wpT_takeS (i := 0) (by kernel_rfl) (by kernel_rfl) ?_
     refine wS [0] ?_
     refine wpS_nil ?_
     refine wpT_takeS (i := 1) (by kernel_rfl) (by kernel_rfl) ?_
     refine wS [1] ?_
     refine wpS_nil ?_
     refine wpT_takeS (i := 2) (by kernel_rfl) (by kernel_rfl) ?_
     refine wpS_read2 (i := 2) (d := some 116) rfl (by rfl) (fun _ hgk => run_get1 (K := strK) (val := valB) (z := valB noHv) hmx.out (show valB x = bgV x.b.k (.slice x.p x.n x.c) from rfl) Tryz.underlying66 (by kernel_rfl) ((hgk.block (by simp)).trans (HM165.out.box 4 rfl)) rfl rfl rfl) rfl ?_
     simp only [Act.put, List.setIfInBounds_toArray, List.set_cons_succ, List.set_cons_zero]
     refine wpS_nil ?_
     refine wpT_takeS (i := 3) (by kernel_rfl) (by kernel_rfl) ?_
     refine wS [3] ?_
     refine wpS_nil ?_
     refine wpT_takeS (i := 4) (by kernel_rfl) (by kernel_rfl) ?_
     refine wS [4] ?_
     refine wpS_nil ?_
     refine wpT_ready 5 [] (by kernel_rfl) (allT_cons ?_ allT_nil)
     refine opT_S (by kernel_rfl) ?_
     refine wU2 (hS := (covS_box 3 rfl covS_nil)) 5 [_, _, _, _, _, _] Tryz.call29 (vbag_e hC.out.kept.ok hxb.out) HM165 [2] fun u169 W167 hm166 => ?_
     obtain ⟨pb, cb, rfl, hm166q⟩ := Mem.bag rfl hm166
     clear hm166
     have HM170 := Lib.hid hm166q
     clear hm166q
     refine wpS_nil ?_
     refine wpT_ready 6 [] (by kernel_rfl) (allT_cons ?_ allT_nil)
     refine opT_S (by kernel_rfl) ?_
     refine wD2 (hS := (covS_box 4 rfl covS_nil)) 6 [_, _, _, _, _, _] [_, _, _, _, _, _, _, _] Tryz.call18 (Does.ofList (bsame_d (listT [_, _]) _ x.b (vL 0 rfl hrx.out.1) hlx.out _ x.b (vL 1 rfl rowT_reads) hlx.out)) HM170 [6, 0] fun W172 hm171 => ?_
     rw [sameB_self]
     have HM174 := Lib.hid hm171
     clear hm171
     refine wpS_nil ?_
     refine wpT_takeS (i := 7) (by kernel_rfl) (by kernel_rfl) ?_
     refine wS [7] ?_
     refine wpS_nil ?_
     refine wpT_end (by kernel_rfl) ?_
     refine then_normal ?_
     refine ⟨by kernel_rfl, ?_⟩
     exact ⟨rfl, (Mem.only (M := [_, _, _, _, _, _, _]) HM174.out [3, 3, 2, 2, 2, 0, 1] rfl)⟩
    rintro vs W' ⟨e121, hm⟩
    simp only [putAll, List.map_cons, List.map_nil, Act.put, List.setIfInBounds_toArray, List.set_cons_succ, List.set_cons_zero]
    rw [e121]
    clear e121
    have HM175 := Lib.hid hm
    clear hm
    refine then_normal (wp_cond_false rfl (wp_skip (block_normal (then_normal (wQ ?_)))))
    refine ⟨by kernel_rfl, ?_⟩
    exact ⟨ks.length - (j + 1), by omega, j + 1, rfl, rfl, hj1, (Mem.only (M := [_, _, _, _, _, _, _]) HM175.out [0, 0, 0, 0, 0, 0, 0] rfl)⟩
   ·have hge : Hid (ks.length ≤ j) := Lib.hid (by have : ¬ (j : Int) < (ks.length : Int) := (by simpa using h160); omega)
    clear h160
    refine wp_exit ?_
    refine then_exit (then_exit (block_exit ?_))
    refine then_normal (wp_seq (wN [(0, 1), (1, 1), (2, 3), (3, 1), (4, 1), (5, 1), (6, 1), (7, 1), (8, 1), (9, 1), (10, 1), (11, 1), (12, 3), (13, 1), (14, 1), (15, 1), (16, 1), (17, 3), (18, 1), (19, 1), (20, 1), (21, 3), (22, 1), (23, 1)] (wT [0, 1] ?_)))
    refine wD2h 2 [_, _, _, _, _] [_, _, _, _, _, _, _] Tryz.call21 (fover_e hC.out.fd hC.out.kept.ok hbl.out hoo.out) HM159 [1, 1] fun W177 HM178 => ?_
    refine wT [3, 4] ?_
    refine wR 5 (run_lenM (K := strK) (val := valB) Tryz.underlying66 (HM178.out.box 4 rfl) rfl rfl) ?_
    rw [hml.out]
    refine wT [6, 7, 8, 9, 10, 11] ?_
    refine wU1 12 [_, _, _, _, _, _] Tryz.call27 (fdue_e hC.out.fd hdd.out) HM178 [0] fun u181 W180 hm179 => ?_
    obtain ⟨pd, cd, rfl, hm179q⟩ := Mem.texts (n := 0) rfl hm179
    clear hm179
    have HM182 := Lib.hid hm179q
    clear hm179q
    refine wT [13, 14, 15, 16] ?_
    refine wD1h 17 [_, _, _, _, _, _, _, _] [_, _, _, _, _, _, _, _] Tryz.call31 (sp0_d) HM182 [] fun W184 HM185 => ?_
    refine wT [18, 19, 20] ?_
    refine wD0h 21 [_, _, _, _, _, _, _, _] [_, _, _, _, _, _, _, _] Tryz.call14 (fawake_d) HM185 [] fun W187 HM188 => ?_
    refine wT [22, 23] ?_
    refine wZ (wp_ret (bodyPost_ret (results_tmp rfl _ _ _) rfl ?_))
    exact does_ret (Mem.only (M := [_]) HM188.out [7] rfl) rfl rfl
end Go.Proofs.YtcbnhakfijiioaaGreat
