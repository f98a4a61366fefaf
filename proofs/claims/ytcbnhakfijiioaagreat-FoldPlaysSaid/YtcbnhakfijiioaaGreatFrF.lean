/- Cursors: FoldPlays. -/
import Derived.Test.YtcbnhakfijiioaaGreatPF
import Derived.Test.YtcbnhakfijiioaaGreatFdY
import Derived.Test.YtcbnhakfijiioaaGreatLgE
import Derived.Test.YtcbnhakfijiioaaGreatVtE
import Derived.Test.YtcbnhakfijiioaaGreatPA
namespace Go.Proofs.YtcbnhakfijiioaaGreat
open Go Go.RowKit Go.BigFrame
def elemQ : Elem Tryz.prog (Int × Int) where
 enc x := [.int .i64 x.1, .int .i64 x.2]
 k := 2
 pos := by decide
 len _ := rfl
 one _ u hu := by
  simp only [List.mem_cons, List.not_mem_nil, or_false] at hu
  rcases hu with rfl | rfl <;> rfl
 t := 37
 sl := 22
 under := Tryz.underlying22
 z := .agg #[.int .i64 0, .int .i64 0]
 bytes := 16
 bpos := by decide
 info := by kernel_rfl
 zs := by kernel_rfl
def kV9 : ByteArray := ⟨#[118]⟩
structure Fp (X : Vl2) (F : Fd) (q : Int) (i : Nat) : Prop where
 kept : Kept X
 fd : FdOk F
 part : F.part = q
 len : F.due.length ≤ i
section
variable {X Y : Vl2} {F F2 : Fd} {q : Int} {i : Nat}
theorem Fp.bl (h : Fp X F q i) : X.1.b.length ≤ 3000 := Nat.le_trans h.kept.len (Nat.le_trans h.kept.lg.len h.kept.lg.room)
theorem Fp.start (h : 0 ≤ q ∧ q < 16) : Fp (playD (newL 300).l, newL 300) (newF q) q 0 := ⟨Kept.open (LgOk.new 300), FdOk.new h, rfl, Nat.le_refl _⟩
theorem Fp.same (h : Fp X F q i) : Fp X F q (i + 1) := ⟨h.kept, h.fd, h.part, Nat.le_succ_of_le h.len⟩
theorem Fp.next {o : Option ByteArray} (h : Fp X F q i) (hn : nextF F (keysV X.1 F.part) = (F2, o)) : Fp X F2 q (i + 1) := by
 have h1 := h.fd.next (keysV X.1 F.part)
 have h2 := next_part F (keysV X.1 F.part)
 have h3 : F2.due.length ≤ F.due.length := by
  have hs := (popD_sub (keysV X.1 F.part) F.due).length_le
  rcases next_ways F (keysV X.1 F.part) with ⟨k, r, e1, e2⟩ | ⟨k, _, _, e2⟩ | ⟨_, _, e2⟩
  ·rw [e1] at hs
   rw [e2] at hn
   obtain rfl := (Prod.mk.inj hn).1
   exact hs
  ·rw [e2] at hn
   obtain rfl := (Prod.mk.inj hn).1
   exact Nat.zero_le _
  ·rw [e2] at hn
   obtain rfl := (Prod.mk.inj hn).1
   exact Nat.zero_le _
 rw [hn] at h1 h2
 exact ⟨h.kept, h1, h2.trans h.part, Nat.le_succ_of_le (Nat.le_trans h3 h.len)⟩
theorem Fp.back (h : Fp X F q i) (k : ByteArray) : Fp X (backF F k) q (i + 1) := ⟨h.kept, h.fd.back k, (back_part _ _).trans h.part, by
 have := insK_len k F.due
 have h2 := h.len
 unfold backF
 split
 ·exact Nat.le_trans this (Nat.succ_le_succ h2)
 ·exact Nat.le_succ_of_le h2⟩
theorem Fp.put (h : Fp X F q i) {k t : ByteArray} {d : En} {e : Int} (hp : putV X 0 k (fun _ => 0) t = (Y, d, e)) : Fp Y F q (i + 1) := by
 have h1 := h.kept.put 0 k (fun _ => 0) t
 rw [hp] at h1
 exact ⟨h1, h.fd, h.part, Nat.le_succ_of_le h.len⟩
theorem Fp.drop (h : Fp X F q i) {n e : Int} (hp : dropV X n = (Y, e)) : Fp Y F q (i + 1) := by
 have h1 := h.kept.drop n
 rw [hp] at h1
 exact ⟨h1, h.fd, h.part, Nat.le_succ_of_le h.len⟩
end
section
variable {X Y : Vl2} {F F2 : Fd} {c d dl : Nat} {s : Rs} {S : Vt} {k : ByteArray}
theorem rput_e {t : ByteArray} {dd : En} {e : Int} (hX : Kept X) (h : putV X 0 k (fun _ => 0) t = (Y, dd, e)) : Does Tryz.prog 26 #[.pointer (some ⟨d, 0, none⟩), .int .i64 0, .string k, vV (fun _ => 0), .string t] [rvT d dl X.1, rlT dl X.2] (.tuple #[dV dd, .int .i64 e]) [rvT d dl Y.1, rlT dl Y.2] := by
 have h1 := rput_d d dl X hX 0 k (fun _ => 0) t
 rw [h] at h1
 exact h1
theorem rdrop_e {n e : Int} (hX : Kept X) (h : dropV X n = (Y, e)) : Does Tryz.prog 24 #[.pointer (some ⟨d, 0, none⟩), .int .i64 n] [rvT d dl X.1, rlT dl X.2] (.int .i64 e) [rvT d dl Y.1, rlT dl Y.2] := by
 have h1 := rdrop_d d dl X hX n
 rw [h] at h1
 exact h1
theorem rnext_s {sl : Value} (hfl : F.due.length ≤ 3000) (hV : VtOk S) (hl : S.b.length ≤ 3000) (hs : RsOk s S) (h : nextF F (keysV S F.part) = (F2, some k)) (hsl : slR s S k = sl) : Does Tryz.prog 17 #[.pointer (some ⟨c, 0, none⟩), .pointer (some ⟨d, 0, none⟩)] [cuT c F, boxT d (.cells (rvC dl S.inc S.dots S.has S.ring (.slice s.rp S.ring.p.2.2.length s.rc) (.slice s.p s.ys.length s.c)).toArray 91 (0, 0)), rowT elemPx (.slice s.p s.ys.length s.c) s.ys] (.tuple #[prV k (bagV S k).k sl, .bool true]) [cuT c F2, boxT d (.cells (rvC dl S.inc S.dots S.has S.ring (.slice s.rp S.ring.p.2.2.length s.rc) (.slice s.p s.ys.length s.c)).toArray 91 (0, 0)), rowT elemPx (.slice s.p s.ys.length s.c) s.ys] := by
 have h1 := rnext_d c F hfl d dl S hV hl s hs
 rw [h] at h1
 rw [← nxV_some hsl]
 exact h1
theorem rnext_n (hfl : F.due.length ≤ 3000) (hV : VtOk S) (hl : S.b.length ≤ 3000) (hs : RsOk s S) (h : nextF F (keysV S F.part) = (F2, none)) : Does Tryz.prog 17 #[.pointer (some ⟨c, 0, none⟩), .pointer (some ⟨d, 0, none⟩)] [cuT c F, boxT d (.cells (rvC dl S.inc S.dots S.has S.ring (.slice s.rp S.ring.p.2.2.length s.rc) (.slice s.p s.ys.length s.c)).toArray 91 (0, 0)), rowT elemPx (.slice s.p s.ys.length s.c) s.ys] (.tuple #[prV ⟨#[]⟩ noB.k (.slice none 0 0), .bool false]) [cuT c F2, boxT d (.cells (rvC dl S.inc S.dots S.has S.ring (.slice s.rp S.ring.p.2.2.length s.rc) (.slice s.p s.ys.length s.c)).toArray 91 (0, 0)), rowT elemPx (.slice s.p s.ys.length s.c) s.ys] := by
 have h1 := rnext_d c F hfl d dl S hV hl s hs
 rw [h] at h1
 exact h1
end
set_option maxHeartbeats 4000000 in
set_option maxRecDepth 100000 in
theorem fplays_d (R : At) (v : Value) (l : List (Int × Int)) (hR : ∀ W H, R.p W H → RowAt elemQ W v l) (part : Int) : Does Tryz.prog 3 #[.int .i64 part, v] [R] (.bool true) [R] := by
 intro w H hp
 have HM0 := Lib.hid (mem_refl hp)
 clear hp
 obtain ⟨p, cap, rfl, -⟩ := (HM0.out.row 0 rfl hR).form
 go_enter Tryz.func3, Tryz.ntmps3
 refine wp_seq (wQ ?_)
 refine wp_seq (wN [(0, 3), (1, 3), (2, 3), (3, 3), (4, 1), (5, 1)] ?_)
 refine wU1 0 [_] Tryz.call9 (lnew_d 300) HM0 [] fun u3 W2 hm1 => ?_
 obtain ⟨dl, rfl, hm1q⟩ := Mem.lgN hm1
 clear hm1
 have HM4 := Lib.hid hm1q
 clear hm1q
 refine wU1 1 [_] Tryz.call8 (vopen_d dl (newL 300) (LgOk.new 300)) HM4 [0] fun u7 W6 hm5 => ?_
 obtain ⟨dv, rfl, hm5q⟩ := Mem.vtN hm5
 clear hm5
 have HM8 := Lib.hid hm5q
 clear hm5q
 refine wU1 2 [_, _, _] Tryz.call11 (rnewL_d 300) HM8 [] fun u11 W10 hm9 => ?_
 obtain ⟨el, rfl, hm9q⟩ := Mem.rfN hm9
 clear hm9
 have HM12 := Lib.hid hm9q
 clear hm9q
 refine wU1 3 [_, _, _] Tryz.call10 (ropen_d el (newL 300)) HM12 [0] fun u15 W14 hm13 => ?_
 obtain ⟨e, rfl, hm13q⟩ := Mem.rvN hm13
 clear hm13
 have HM16 := Lib.hid hm13q
 clear hm13q
 refine wT [4, 5] ?_
 refine wZ (wp_seq ?_)
 by_cases hpr' : 0 ≤ part ∧ part < 16
 ·have hpr := Lib.hid hpr'
  clear hpr'
  refine wN [(0, 1), (1, 3), (2, 1), (3, 3), (4, 1), (5, 1)] (wT [0] ?_)
  refine wU1 1 [_, _, _, _, _] Tryz.call12 (fnew_d part hpr.out) HM16 [] fun u19 W18 hm17 => ?_
  obtain ⟨c, rfl, hm17q⟩ := Mem.fdN hm17
  clear hm17
  have HM20 := Lib.hid hm17q
  clear hm17q
  refine wT [2] ?_
  refine wU1 3 [_, _, _, _, _, _] Tryz.call13 (rnewc_d part hpr.out) HM20 [] fun u23 W22 hm21 => ?_
  obtain ⟨ec, rfl, hm21q⟩ := Mem.cuN hm21
  clear hm21
  have HM24 := Lib.hid hm21q
  clear hm21q
  refine wT [4, 5] ?_
  refine wZ (wp_seq (wp_seq (wQ ?_)))
  refine wp_cond_false rfl (wp_skip (then_normal (wp_seq (wp_seq (wQ ?_)))))
  refine wp_cond_false rfl (wp_skip (then_normal (wp_seq (wp_seq (wQ ?_)))))
  refine wp_cut_F [4, 9, 10, 11, 12, 13, 14, 15, 16, 17, 18, 37, 38, 39, 40, 41, 42, 43, 44, 45, 46, 47, 48, 49, 50, 51, 52, 53, 54, 55, 56, 57, 58, 59, 60, 61, 62, 63, 64, 65, 66, 67, 68, 69, 70, 71, 72, 73, 74, 75, 76, 77, 78, 79, 80, 81, 82, 83, 84, 85, 86, 87, 88, 89, 90, 91, 92, 93, 94, 95, 96, 97, 98, 99, 100, 101, 102, 103, 104, 105, 106, 107, 108, 109, 110, 111, 112, 113, 114, 115, 116, 117, 118, 119, 120, 121, 122, 123, 124, 125, 126, 127, 128, 129, 130, 131, 132, 133, 134, 135, 136, 137, 138, 139, 140, 141, 142, 143, 144, 145, 146] (fun ts W' => Mem [R] H w W') ?_ ?_
  ·refine wp_block ?_
   refine wp_loop_F [4, 9, 10, 11, 12, 13, 14, 15, 16, 17, 18, 37, 38, 39, 40, 41, 42, 43, 44, 45, 46, 47, 48, 49, 50, 51, 52, 53, 54, 55, 56, 57, 58, 59, 60, 61, 62, 63, 64, 65, 66, 67, 68, 69, 70, 71, 72, 73, 74, 75, 76, 77, 78, 79, 80, 81, 82, 83, 84, 85, 86, 87, 88, 89, 90, 91, 92, 93, 94, 95, 96, 97, 98, 99, 100, 101, 102, 103, 104, 105, 106, 107, 108, 109, 110, 111, 112, 113, 114, 115, 116, 117, 118, 119, 120, 121, 122, 123, 124, 125, 126, 127, 128, 129, 130, 131, 132, 133, 134, 135, 136, 137, 138, 139, 140, 141, 142, 143, 144, 145, 146] (fun n vs W' => ∃ (i : Nat) (X : Vl2) (F : Fd), n = l.length - i ∧ vs 37 = .int .i64 (i : Int) ∧ i ≤ l.length ∧ i ≤ 100 ∧ Fp X F part i ∧ Mem [fdT c F, vtT dv dl X.1, lgT dl X.2, cuT ec F, rvT e el X.1, rlT el X.2, R] H w W') (n0 := l.length) ?_ ?_
   ·exact ⟨0, (playD (newL 300).l, newL 300), newF part, rfl, rfl, Nat.zero_le _, Nat.zero_le _, Fp.start hpr.out, (Mem.only (M := [_, _, _, _, _, _, _]) HM24.out [1, 3, 3, 0, 0, 0, 0] rfl)⟩
   rintro n vs W' ⟨i, X, F, rfl, e37, hi, hi100, hP', hm⟩
   simp only [putAll, List.map_cons, List.map_nil, Act.put, List.setIfInBounds_toArray, List.set_cons_succ, List.set_cons_zero]
   rw [e37]
   clear e37
   have hP := Lib.hid hP'
   clear hP'
   have hbl := Lib.hid hP.out.bl
   have hdl := hP.out.len
   have HM25 := Lib.hid hm
   clear hm
   refine wp_seq (wQ ?_)
   refine wp_seq ?_
   refine wp_cond_split rfl (fun h26 => ?_) (fun h26 => ?_)
   ·have hi1 : i + 1 ≤ l.length := by have : (i : Int) < ((l.length : Nat) : Int) := (by simpa using h26); omega
    clear h26
    obtain ⟨y, hy'⟩ : ∃ y, l[i]? = some y := ⟨_, List.getElem?_eq_getElem (hi1)⟩
    have hy := Lib.hid hy'
    clear hy'
    refine wp_skip (then_normal (wp_seq (wp_block (wp_seq (wN [(0, 1), (1, 1), (2, 1), (3, 3), (4, 1), (5, 3)] (wT [0] ?_))))))
    refine wI elemQ 1 (HM25.out.row 6 rfl hR) (hy.out) fun eb27 eo28 hc29 => ?_
    refine wL 2 [.int .i64 y.1, .int .i64 y.2] hc29 Tryz.underlying37 ?_
    refine wpS_alloc (i := 3) (dd := 10) (z := .agg #[.int .i64 0, .int .i64 0]) (cs := #[.int .i64 0, .int .i64 0]) rfl (by rfl) rfl (by kernel_rfl) rfl HM25.out covS_nil rfl ?_
    rintro b32 W31 hm30 -
    have HM33 := Lib.hid hm30
    clear hm30
    simp only [Act.put, List.setIfInBounds_toArray, List.set_cons_succ, List.set_cons_zero]
    refine wT [4] ?_
    refine wpS_storeA (i := 5) (L2 := [_, _, _, _, _, _, _]) (cs' := [_, _]) rfl (by rfl) rfl rfl rfl (by kernel_rfl) (by rfl) HM33.out 0 rfl rfl rfl rfl covS_nil rfl ?_
    rintro W35 hm34 -
    have HM36 := Lib.hid hm34
    clear hm34
    refine wZ (wp_seq (wp_seq ?_))
    by_cases hi10 : 100 ≤ i
    ·have g10 : decide ((100 : Int) ≤ (i : Int)) = true := decide_eq_true (by omega)
     have g10' : decide (100 ≤ i) = true := decide_eq_true hi10
     refine wQ ?_
     refine wp_cond_true rfl (wp_exit ?_)
     refine then_exit (block_out (by decide) (then_exit (then_exit (block_exit ?_))))
     refine then_normal ?_
     refine ⟨by kernel_rfl, ?_⟩
     exact (Mem.only (M := [_]) HM36.out [7] rfl)
    ·have g10 : decide ((100 : Int) ≤ (i : Int)) = false := decide_eq_false (by omega)
     have g10' : decide (100 ≤ i) = false := decide_eq_false hi10
     refine wQ ?_
     refine wp_cond_false rfl (wp_skip (then_normal (wp_seq (wN [(0, 1), (1, 1), (2, 3), (3, 1)] ?_))))
     have Cb10 := Mem.cell HM36.out 0 rfl
     refine wT [0, 1] ?_
     clear Cb10
     refine wD1h 2 [_, _, _, _, _, _, _, _] [_, _, _, _, _, _, _, _] Tryz.call15 (key_d y.2) HM36 [] fun W38 HM39 => ?_
     refine wT [3] ?_
     refine wZ (wp_seq (wQ ?_))
     refine wp_seq (wp_seq ?_)
     have Cb10 := Mem.cell HM39.out 0 rfl
     refine wQ ?_
     clear Cb10
     refine wp_cut_F [12, 13, 14, 15, 16, 49, 50, 51, 52, 53, 54, 55, 56, 57, 58, 59, 60, 61, 62, 63, 64, 65, 66, 67, 68, 69, 70, 71, 72, 73, 74, 75, 76, 77, 78, 79, 80, 81, 82, 83, 84, 85, 86, 87, 88, 89, 90, 91, 92, 93, 94, 95, 96, 97, 98, 99, 100, 101, 102, 103, 104, 105, 106, 107, 108, 109, 110, 111, 112, 113] (fun us W' => ∃ (Y : Vl2) (G : Fd), us 12 = .bool true ∧ Fp Y G part (i + 1) ∧ Mem [fdT c G, vtT dv dl Y.1, lgT dl Y.2, cuT ec G, rvT e el Y.1, rlT el Y.2, R] H w W') ?_ ?_
     ·refine wp_block (wp_seq ?_)
      rcases (show y.1 = 0 ∨ y.1 = 1 ∨ y.1 = 2 ∨ y.1 = 3 ∨ (y.1 ≠ 0 ∧ y.1 ≠ 1 ∧ y.1 ≠ 2 ∧ y.1 ≠ 3) from by omega) with h0 | h1 | h2 | h3 | ⟨h0, h1, h2, h3⟩
      ·have gd0 : (y.1 == 0) = true := beq_iff_eq.2 h0
       replace h0 := Lib.hid h0
       refine wQ ?_
       refine wp_cond_true rfl (wp_seq ?_)
       obtain ⟨F2, o, hn'⟩ : ∃ F2 o, nextF F (keysV X.1 F.part) = (F2, o) := ⟨_, _, rfl⟩
       rcases o with _ | k
       ·have hn := Lib.hid hn'
        clear hn'
        refine wN [(0, 1), (1, 1), (2, 3), (3, 1), (4, 1), (5, 1), (6, 3), (7, 3), (8, 1)] (wT [0, 1] ?_)
        refine wU2 2 [_, _, _, _, _, _] Tryz.call16 (fnext_n hP.out.fd hP.out.kept.ok hbl.out hn.out) HM39 [1, 1] fun u42 W41 hm40 => ?_
        obtain ⟨pw, cw, rfl, hm40q⟩ := Mem.pair rfl hm40
        clear hm40
        have HM43 := Lib.hid hm40q
        clear hm40q
        refine wT [3, 4, 5] ?_
        refine wpS_alloc (i := 6) (dd := 13) (z := prV ⟨#[]⟩ noB.k (.slice none 0 0)) (cs := (prC ⟨#[]⟩ noB.k (.slice none 0 0)).toArray) rfl (by rfl) rfl (by kernel_rfl) rfl HM43.out covS_nil rfl ?_
        rintro b46 W45 hm44 -
        have HM47 := Lib.hid hm44
        clear hm44
        simp only [Act.put, List.setIfInBounds_toArray, List.set_cons_succ, List.set_cons_zero]
        refine wpS_storeA (i := 7) (L2 := [_, _, _, _, _, _, _, _, _]) (cs' := prC ⟨#[]⟩ noB.k (.slice pw noB.v.length cw)) rfl (by rfl) rfl rfl rfl (by kernel_rfl) (prC_one _ _ _) HM47.out 0 rfl rfl (by kernel_rfl) (by kernel_rfl) covS_nil rfl ?_
        rintro W49 hm48 -
        have HM50 := Lib.hid hm48
        clear hm48
        refine wT [8] ?_
        refine wZ (wp_seq ?_)
        have HO51 := Mem.only (M := [_, _, _, _, _, _, _, _, _, _]) HM50.out [7, 0, 0, 0, 0, 0, 0, 0, 0, 0] rfl
        obtain ⟨s, hs', HO51q⟩ := Mem.rv HO51
        clear HO51
        have hs := Lib.hid hs'
        clear hs'
        have HM52 := Lib.hid HO51q
        clear HO51q
        refine wN [(0, 1), (1, 1), (2, 3), (3, 1), (4, 1), (5, 1), (6, 3), (7, 3), (8, 1)] (wT [0, 1] ?_)
        refine wD2h 2 [_, _, _, _, _, _, _, _, _] [_, _, _, _, _, _, _, _, _, _, _, _] Tryz.call17 (rnext_n (by omega) hP.out.kept.ok hbl.out hs.out hn.out) HM52 [9, 0, 0] fun W54 HM55 => ?_
        refine wT [3, 4, 5] ?_
        refine wpS_alloc (i := 6) (dd := 15) (z := prV ⟨#[]⟩ noB.k (.slice none 0 0)) (cs := (prC ⟨#[]⟩ noB.k (.slice none 0 0)).toArray) rfl (by rfl) rfl (by kernel_rfl) rfl HM55.out covS_nil rfl ?_
        rintro b58 W57 hm56 -
        have HM59 := Lib.hid hm56
        clear hm56
        simp only [Act.put, List.setIfInBounds_toArray, List.set_cons_succ, List.set_cons_zero]
        refine wpS_storeA (i := 7) (L2 := [_, _, _, _, _, _, _, _, _, _, _, _]) (cs' := prC ⟨#[]⟩ noB.k (.slice none 0 0)) rfl (by rfl) rfl rfl rfl (by kernel_rfl) (prC_one _ _ _) HM59.out 0 rfl rfl (by kernel_rfl) (by kernel_rfl) covS_nil rfl ?_
        rintro W61 hm60 -
        have HM62 := Lib.hid hm60
        clear hm60
        refine wT [8] ?_
        refine wZ (wN [(0, 1), (1, 1), (2, 1), (3, 1), (4, 1), (5, 1), (6, 1), (7, 1), (8, 1), (9, 1), (10, 1), (11, 1), (12, 1), (13, 1), (14, 1), (15, 3), (16, 1), (17, 1)] (wT [0, 1, 2, 3, 4] ?_))
        refine wM 5 (.string ⟨#[]⟩) (HM62.out.part1 5 rfl prC_key) Tryz.underlying9 ?_
        refine wT [6] ?_
        refine wM 7 (.string ⟨#[]⟩) (HM62.out.part1 0 rfl prC_key) Tryz.underlying9 ?_
        refine wR 8 (run_eqS (b := true) (decide_eq_true rfl) rfl rfl rfl) ?_
        refine wT [9, 10, 11] ?_
        refine wL 12 (bgC noB.k (.slice pw noB.v.length cw)) (HM62.out.part 5 rfl (prC_bag)) Tryz.underlying43 ?_
        refine wT [13] ?_
        refine wL 14 (bgC noB.k (.slice none 0 0)) (HM62.out.part 0 rfl (prC_bag)) Tryz.underlying43 ?_
        refine wD2 15 [_, _, _, _, _, _, _, _, _, _, _] [_, _, _, _, _, _, _, _, _, _, _, _, _] Tryz.call18 (Does.ofList (bsame_d (listT [_, _]) _ noB (vL 0 rfl rowT_reads) (Nat.zero_le _) _ noB (vL 1 rfl (vNil _)) (Nat.zero_le _))) HM62 [6, 4] fun W64 hm63 => ?_
        rw [sameB_self]
        have HM65 := Lib.hid hm63
        clear hm63
        refine wT [16, 17] ?_
        refine wpS_nil (block_normal (then_normal ?_))
        refine ⟨by kernel_rfl, ?_⟩
        exact ⟨X, F2, rfl, hP.out.next hn.out, (Mem.only (M := [_, _, _, _, _, _, _]) (Mem.toRv s hs.out (Mem.only (M := [_, _, _, _, _, _, _, _, _]) HM65.out [4, 4, 1, 4, 4, 5, 2, 4, 4] rfl)) [1, 1, 1, 1, 0, 0, 0] rfl)⟩
       ·have hn := Lib.hid hn'
        clear hn'
        refine wN [(0, 1), (1, 1), (2, 3), (3, 1), (4, 1), (5, 1), (6, 3), (7, 3), (8, 1)] (wT [0, 1] ?_)
        refine wU2 2 [_, _, _, _, _, _] Tryz.call16 (fnext_s hP.out.fd hP.out.kept.ok hbl.out hn.out) HM39 [1, 1] fun u68 W67 hm66 => ?_
        obtain ⟨pw, cw, rfl, hm66q⟩ := Mem.pair rfl hm66
        clear hm66
        have HM69 := Lib.hid hm66q
        clear hm66q
        refine wT [3, 4, 5] ?_
        refine wpS_alloc (i := 6) (dd := 13) (z := prV ⟨#[]⟩ noB.k (.slice none 0 0)) (cs := (prC ⟨#[]⟩ noB.k (.slice none 0 0)).toArray) rfl (by rfl) rfl (by kernel_rfl) rfl HM69.out covS_nil rfl ?_
        rintro b72 W71 hm70 -
        have HM73 := Lib.hid hm70
        clear hm70
        simp only [Act.put, List.setIfInBounds_toArray, List.set_cons_succ, List.set_cons_zero]
        refine wpS_storeA (i := 7) (L2 := [_, _, _, _, _, _, _, _, _]) (cs' := prC k (bagV X.1 k).k (.slice pw (bagV X.1 k).v.length cw)) rfl (by rfl) rfl rfl rfl (by kernel_rfl) (prC_one _ _ _) HM73.out 0 rfl rfl (by kernel_rfl) (by kernel_rfl) covS_nil rfl ?_
        rintro W75 hm74 -
        have HM76 := Lib.hid hm74
        clear hm74
        refine wT [8] ?_
        refine wZ (wp_seq ?_)
        have HO77 := Mem.only (M := [_, _, _, _, _, _, _, _, _, _]) HM76.out [7, 0, 0, 0, 0, 0, 0, 0, 0, 0] rfl
        obtain ⟨s, hs', HO77q⟩ := Mem.rv HO77
        clear HO77
        have hs := Lib.hid hs'
        clear hs'
        have HM78 := Lib.hid HO77q
        clear HO77q
        obtain ⟨sp, sn, sc, hsl'⟩ := slR_form s X.1 k
        have hsl := Lib.hid hsl'
        clear hsl'
        have hrd : Hid (Reads elemV s.G (.slice sp sn sc) (bagV X.1 k).v) := Lib.hid (by rw [← hsl.out]; exact rd_bag hs.out hP.out.kept.ok k)
        have hbv : Hid ((bagV X.1 k).v.length ≤ 4398046510976) := Lib.hid (Nat.le_trans (bagV_len hP.out.kept.ok k) (by decide))
        refine wN [(0, 1), (1, 1), (2, 3), (3, 1), (4, 1), (5, 1), (6, 3), (7, 3), (8, 1)] (wT [0, 1] ?_)
        refine wD2h 2 [_, _, _, _, _, _, _, _, _] [_, _, _, _, _, _, _, _, _, _, _, _] Tryz.call17 (rnext_s (by omega) hP.out.kept.ok hbl.out hs.out hn.out hsl.out) HM78 [9, 0, 0] fun W80 HM81 => ?_
        refine wT [3, 4, 5] ?_
        refine wpS_alloc (i := 6) (dd := 15) (z := prV ⟨#[]⟩ noB.k (.slice none 0 0)) (cs := (prC ⟨#[]⟩ noB.k (.slice none 0 0)).toArray) rfl (by rfl) rfl (by kernel_rfl) rfl HM81.out covS_nil rfl ?_
        rintro b84 W83 hm82 -
        have HM85 := Lib.hid hm82
        clear hm82
        simp only [Act.put, List.setIfInBounds_toArray, List.set_cons_succ, List.set_cons_zero]
        refine wpS_storeA (i := 7) (L2 := [_, _, _, _, _, _, _, _, _, _, _, _]) (cs' := prC k (bagV X.1 k).k (.slice sp sn sc)) rfl (by rfl) rfl rfl rfl (by kernel_rfl) (prC_one _ _ _) HM85.out 0 rfl rfl (by kernel_rfl) (by kernel_rfl) covS_nil rfl ?_
        rintro W87 hm86 -
        have HM88 := Lib.hid hm86
        clear hm86
        refine wT [8] ?_
        refine wZ (wN [(0, 1), (1, 1), (2, 1), (3, 1), (4, 1), (5, 1), (6, 1), (7, 1), (8, 1), (9, 1), (10, 1), (11, 1), (12, 1), (13, 1), (14, 1), (15, 3), (16, 1), (17, 1)] (wT [0, 1, 2, 3, 4] ?_))
        refine wM 5 (.string k) (HM88.out.part1 5 rfl prC_key) Tryz.underlying9 ?_
        refine wT [6] ?_
        refine wM 7 (.string k) (HM88.out.part1 0 rfl prC_key) Tryz.underlying9 ?_
        refine wR 8 (run_eqS (b := true) (decide_eq_true rfl) rfl rfl rfl) ?_
        refine wT [9, 10, 11] ?_
        refine wL 12 (bgC (bagV X.1 k).k (.slice pw (bagV X.1 k).v.length cw)) (HM88.out.part 5 rfl (prC_bag)) Tryz.underlying43 ?_
        refine wT [13] ?_
        refine wL 14 (bgC (bagV X.1 k).k (.slice sp sn sc)) (HM88.out.part 0 rfl (prC_bag)) Tryz.underlying43 ?_
        refine wD2 15 [_, _, _, _, _, _, _, _, _, _, _] [_, _, _, _, _, _, _, _, _, _, _, _, _] Tryz.call18 (Does.ofList (bsame_d (listT [_, _]) _ (bagV X.1 k) (vL 0 rfl rowT_reads) hbv.out _ (bagV X.1 k) (vL 1 rfl hrd.out) hbv.out)) HM88 [6, 4] fun W90 hm89 => ?_
        rw [sameB_self]
        have HM91 := Lib.hid hm89
        clear hm89
        refine wT [16, 17] ?_
        refine wpS_nil (block_normal (then_normal ?_))
        refine ⟨by kernel_rfl, ?_⟩
        exact ⟨X, F2, rfl, hP.out.next hn.out, (Mem.only (M := [_, _, _, _, _, _, _]) (Mem.toRv s hs.out (Mem.only (M := [_, _, _, _, _, _, _, _, _]) HM91.out [4, 4, 1, 4, 4, 5, 2, 4, 4] rfl)) [1, 1, 1, 1, 0, 0, 0] rfl)⟩
      ·have gd0 : (y.1 == 0) = false := beq_eq_false_iff_ne.2 (by omega)
       have gd1 : (y.1 == 1) = true := beq_iff_eq.2 h1
       replace h1 := Lib.hid h1
       refine wQ ?_
       refine wp_cond_false rfl (wp_seq (wQ ?_))
       refine wp_cond_true rfl ?_
       obtain ⟨z, hz'⟩ := bool_letter (backB F (keyN y.2))
       have hz := Lib.hid hz'
       clear hz'
       refine wN [(0, 1), (1, 1), (2, 3), (3, 1), (4, 1), (5, 3), (6, 1), (7, 1)] (wT [0, 1] ?_)
       refine wD2 2 [_, _, _, _, _, _, _] [_, _, _, _, _, _, _, _] Tryz.call19 (fback_d c F hP.out.fd (keyN y.2) (keyN_key y.2) (by omega)) HM39 [1] fun W93 hm92 => ?_
       rw [hz.out]
       have HM94 := Lib.hid hm92
       clear hm92
       refine wT [3, 4] ?_
       refine wD2 5 [_, _, _, _, _, _, _] [_, _, _, _, _, _, _, _] Tryz.call20 (rback_d ec F hP.out.fd (by omega) (keyN y.2) (keyN_key y.2)) HM94 [4] fun W96 hm95 => ?_
       rw [hz.out]
       have HM97 := Lib.hid hm95
       clear hm95
       refine wT [6, 7] ?_
       refine wpS_nil (block_normal (then_normal ?_))
       refine ⟨by kernel_rfl, ?_⟩
       exact ⟨X, backF F (keyN y.2), congrArg Value.bool (by cases z <;> rfl), hP.out.back _, (Mem.only (M := [_, _, _, _, _, _, _]) HM97.out [1, 2, 2, 0, 1, 1, 1] rfl)⟩
      ·have gd0 : (y.1 == 0) = false := beq_eq_false_iff_ne.2 (by omega)
       have gd1 : (y.1 == 1) = false := beq_eq_false_iff_ne.2 (by omega)
       have gd2 : (y.1 == 2) = true := beq_iff_eq.2 h2
       replace h2 := Lib.hid h2
       refine wQ ?_
       refine wp_cond_false rfl (wp_seq (wQ ?_))
       refine wp_cond_false rfl (wp_seq (wQ ?_))
       refine wp_cond_true rfl ?_
       obtain ⟨z, hz'⟩ := bool_letter (overF F (keysV X.1 F.part))
       have hz := Lib.hid hz'
       clear hz'
       have HO98 := Mem.only (M := [_, _, _, _, _, _, _, _]) HM39.out [5, 0, 0, 0, 0, 0, 0, 0] rfl
       obtain ⟨s, hs', HO98q⟩ := Mem.rv HO98
       clear HO98
       have hs := Lib.hid hs'
       clear hs'
       have HM99 := Lib.hid HO98q
       clear HO98q
       refine wN [(0, 1), (1, 1), (2, 3), (3, 1), (4, 1), (5, 3), (6, 1), (7, 1)] (wT [0, 1] ?_)
       refine wD2 2 [_, _, _, _, _, _, _, _] [_, _, _, _, _, _, _, _, _, _] Tryz.call21 (fover_d c dv dl F hP.out.fd X.1 hP.out.kept.ok hbl.out) HM99 [4, 4] fun W101 hm100 => ?_
       rw [hz.out]
       have HM102 := Lib.hid hm100
       clear hm100
       refine wT [3, 4] ?_
       refine wD2 5 [_, _, _, _, _, _, _] [_, _, _, _, _, _, _, _, _, _] Tryz.call22 (rover_d ec F e el X.1 hP.out.kept.ok hbl.out s hs.out) HM102 [7, 2, 2] fun W104 hm103 => ?_
       rw [hz.out]
       have HM105 := Lib.hid hm103
       clear hm103
       refine wT [6, 7] ?_
       refine wpS_nil (block_normal (then_normal ?_))
       refine ⟨by kernel_rfl, ?_⟩
       exact ⟨X, F, congrArg Value.bool (by cases z <;> rfl), hP.out.same, (Mem.only (M := [_, _, _, _, _, _, _]) (Mem.toRv s hs.out (Mem.only (M := [_, _, _, _, _, _, _, _, _]) HM105.out [1, 1, 3, 1, 1, 2, 0, 1, 1] rfl)) [1, 1, 1, 1, 0, 0, 0] rfl)⟩
      ·have gd0 : (y.1 == 0) = false := beq_eq_false_iff_ne.2 (by omega)
       have gd1 : (y.1 == 1) = false := beq_eq_false_iff_ne.2 (by omega)
       have gd2 : (y.1 == 2) = false := beq_eq_false_iff_ne.2 (by omega)
       have gd3 : (y.1 == 3) = true := beq_iff_eq.2 h3
       replace h3 := Lib.hid h3
       refine wQ ?_
       refine wp_cond_false rfl (wp_seq (wQ ?_))
       refine wp_cond_false rfl (wp_seq (wQ ?_))
       refine wp_cond_false rfl (wp_seq (wQ ?_))
       refine wp_cond_true rfl (wp_seq ?_)
       obtain ⟨Y, e3, hdr'⟩ : ∃ a b, dropV X part = (a, b) := ⟨_, _, rfl⟩
       have hdr := Lib.hid hdr'
       clear hdr'
       refine wN [(0, 1), (1, 1), (2, 3)] (wT [0, 1] ?_)
       refine wD2h 2 [_, _, _, _, _, _] [_, _, _, _, _, _, _, _] Tryz.call23 (vdrop_e hP.out.kept hdr.out) HM39 [2, 2] fun W107 HM108 => ?_
       refine wZ (wN [(0, 1), (1, 1), (2, 3)] (wT [0, 1] ?_))
       refine wD2h 2 [_, _, _, _, _, _] [_, _, _, _, _, _, _, _] Tryz.call24 (rdrop_e hP.out.kept hdr.out) HM108 [5, 5] fun W110 HM111 => ?_
       refine wpS_nil (block_normal (then_normal ?_))
       refine ⟨by kernel_rfl, ?_⟩
       exact ⟨Y, F, rfl, hP.out.drop hdr.out, (Mem.only (M := [_, _, _, _, _, _, _]) HM111.out [5, 2, 2, 3, 0, 0, 1] rfl)⟩
      ·have gd0 : (y.1 == 0) = false := beq_eq_false_iff_ne.2 (by omega)
       have gd1 : (y.1 == 1) = false := beq_eq_false_iff_ne.2 (by omega)
       have gd2 : (y.1 == 2) = false := beq_eq_false_iff_ne.2 (by omega)
       have gd3 : (y.1 == 3) = false := beq_eq_false_iff_ne.2 (by omega)
       replace h0 := Lib.hid h0
       replace h1 := Lib.hid h1
       replace h2 := Lib.hid h2
       replace h3 := Lib.hid h3
       refine wQ ?_
       refine wp_cond_false rfl (wp_seq (wQ ?_))
       refine wp_cond_false rfl (wp_seq (wQ ?_))
       refine wp_cond_false rfl (wp_seq (wQ ?_))
       refine wp_cond_false rfl (wp_seq ?_)
       obtain ⟨Y, d3, e3, hpv'⟩ : ∃ a b c, putV X 0 (keyN y.2) (fun _ => 0) kV9 = (a, b, c) := ⟨_, _, _, rfl⟩
       have hpv := Lib.hid hpv'
       clear hpv'
       refine wN [(0, 1), (1, 1), (2, 1), (3, 3)] (wT [0, 1] ?_)
       refine wR 2 (v := vV (fun _ => 0)) (by kernel_rfl) ?_
       refine wD5h 3 [_, _, _, _, _, _] [_, _, _, _, _, _, _, _] Tryz.call25 (vput_e hP.out.kept hpv.out) HM39 [2, 2] fun W113 HM114 => ?_
       refine wZ (wN [(0, 1), (1, 1), (2, 1), (3, 3)] (wT [0, 1] ?_))
       refine wR 2 (v := vV (fun _ => 0)) (by kernel_rfl) ?_
       refine wD5h 3 [_, _, _, _, _, _] [_, _, _, _, _, _, _, _] Tryz.call26 (rput_e hP.out.kept hpv.out) HM114 [5, 5] fun W116 HM117 => ?_
       refine wpS_nil (block_normal (then_normal ?_))
       refine ⟨by kernel_rfl, ?_⟩
       exact ⟨Y, F, rfl, hP.out.put hpv.out, (Mem.only (M := [_, _, _, _, _, _, _]) HM117.out [5, 2, 2, 3, 0, 0, 1] rfl)⟩
     ·rintro us W' ⟨Y, G, e12, hP2', hm⟩
      simp only [putAll, List.map_cons, List.map_nil, Act.put, List.setIfInBounds_toArray, List.set_cons_succ, List.set_cons_zero]
      rw [e12]
      clear e12
      have hP2 := Lib.hid hP2'
      clear hP2'
      have hdl2 := hP2.out.len
      have HM118 := Lib.hid hm
      clear hm
      refine then_normal (wp_seq (wN [(0, 1), (1, 3), (2, 1)] (wT [0] ?_)))
      refine wU1 1 [_, _, _, _, _, _] Tryz.call27 (fdue_d c G hP2.out.fd) HM118 [0] fun u121 W120 hm119 => ?_
      obtain ⟨pu, cu, rfl, hm119q⟩ := Mem.texts rfl hm119
      clear hm119
      have HM122 := Lib.hid hm119q
      clear hm119q
      refine wT [2] ?_
      refine wZ (wp_seq (wp_seq ?_))
      have HO123 := Mem.only (M := [_, _, _, _, _, _, _, _]) HM122.out [4, 0, 0, 0, 0, 0, 0, 0] rfl
      obtain ⟨pm, cm, HO123q⟩ := Mem.cu HO123
      clear HO123
      have HM124 := Lib.hid HO123q
      clear HO123q
      have Ccb := Mem.cell HM124.out 0 rfl
      refine wQ ?_
      clear Ccb
      refine wp_cond_false rfl (wp_skip (then_normal (wp_seq (wQ ?_))))
      refine wp_block ?_
      refine wp_loop_F [4, 18, 130, 131, 132, 133, 134, 135, 136, 137, 138, 139, 140, 141, 142, 143, 144, 145] (fun n ts W' => ∃ j : Nat, n = G.due.length - j ∧ ts 130 = .int .i64 (j : Int) ∧ j ≤ G.due.length ∧ Mem [rowT elemS (.slice pu G.due.length cu) G.due, boxT ec (.cells #[.int .i64 G.part, .bool G.any, .string G.last, .slice pm G.due.length cm] 62 (0, 0)), rowT elemS (.slice pm G.due.length cm) G.due, fdT c G, vtT dv dl Y.1, lgT dl Y.2, rvT e el Y.1, rlT el Y.2, R] H w W') (n0 := G.due.length) ?_ ?_
      ·exact ⟨0, rfl, rfl, Nat.zero_le _, (Mem.only (M := [_, _, _, _, _, _, _, _, _]) HM124.out [2, 0, 0, 0, 0, 0, 0, 0, 0] rfl)⟩
      rintro n ts W' ⟨j, rfl, e130, hj, hm3⟩
      simp only [putAll, List.map_cons, List.map_nil, Act.put, List.setIfInBounds_toArray, List.set_cons_succ, List.set_cons_zero]
      rw [e130]
      clear e130
      have HM125 := Lib.hid hm3
      clear hm3
      refine wp_seq (wQ ?_)
      refine wp_seq ?_
      refine wp_cond_split rfl (fun h126 => ?_) (fun h126 => ?_)
      ·have hj1 : j + 1 ≤ G.due.length := by have : (j : Int) < ((G.due.length : Nat) : Int) := (by simpa using h126); omega
       clear h126
       obtain ⟨k, hk'⟩ : ∃ y, G.due[j]? = some y := ⟨_, List.getElem?_eq_getElem (hj1)⟩
       have hk := Lib.hid hk'
       clear hk'
       refine wp_skip (then_normal (wp_seq (wp_block (wp_seq (wQ ?_)))))
       refine wp_seq ?_
       refine wp_region_M (fun k => k ∈ ([] : List Nat)) [(0, 1), (1, 1), (2, 1), (3, 1), (4, 1), (5, 1), (6, 1), (7, 1), (8, 1), (9, 1), (10, 1), (11, 1)] (by kernel_rfl) (by kernel_rfl) HM125.out ?_
       intro W127 hm128
       have HM129 := Lib.hid hm128
       clear hm128
       refine wT [0, 1] ?_
       refine wI elemS 2 ((Mem.src HM129.out 0 rfl rowT_reads).1) (hk.out) fun eb130 eo131 hc132 => ?_
       refine wM 3 (.string k) (hc132 0 _ rfl) Tryz.underlying9 ?_
       have Ccb := Mem.cell HM129.out 1 rfl
       refine wT [4, 5, 6, 7, 8] ?_
       clear Ccb
       refine wI elemS 9 ((Mem.src HM129.out 2 rfl rowT_reads).1) (hk.out) fun eb133 eo134 hc135 => ?_
       refine wM 10 (.string k) (hc135 0 _ rfl) Tryz.underlying9 ?_
       refine wR 11 (run_neK rfl rfl rfl) ?_
       refine wZ (wp_cond_false rfl (wp_skip (block_normal (then_normal (wQ ?_)))))
       refine ⟨by kernel_rfl, ?_⟩
       exact ⟨G.due.length - (j + 1), by omega, j + 1, rfl, rfl, hj1, (Mem.only (M := [_, _, _, _, _, _, _, _, _]) HM129.out [0, 0, 0, 0, 0, 0, 0, 0, 0] rfl)⟩
      ·have hge2 : Hid (G.due.length ≤ j) := Lib.hid (by have : ¬ (j : Int) < ((G.due.length : Nat) : Int) := (by simpa using h126); omega)
       clear h126
       refine wp_exit ?_
       refine then_exit (then_exit (block_exit ?_))
       refine block_normal (then_normal (wQ ?_))
       refine ⟨by kernel_rfl, ?_⟩
       exact ⟨l.length - (i + 1), by omega, i + 1, Y, G, rfl, rfl, hi1, (by omega), hP2.out, (Mem.only (M := [_, _, _, _, _, _, _]) (Mem.toCu (Mem.only (M := [_, _, _, _, _, _, _, _]) HM125.out [1, 1, 1, 1, 1, 1, 1, 1] rfl)) [1, 1, 1, 0, 0, 0, 0] rfl)⟩
   ·have hge : Hid (l.length ≤ i) := Lib.hid (by have : ¬ (i : Int) < ((l.length : Nat) : Int) := (by simpa using h26); omega)
    clear h26
    refine wp_exit ?_
    refine then_exit (then_exit (block_exit ?_))
    refine then_normal ?_
    refine ⟨by kernel_rfl, ?_⟩
    exact (Mem.only (M := [_]) HM25.out [6] rfl)
  ·rintro ts W' hm
   simp only [putAll, List.map_cons, List.map_nil, Act.put, List.setIfInBounds_toArray, List.set_cons_succ, List.set_cons_zero]
   have HM136 := Lib.hid hm
   clear hm
   refine then_normal (wp_seq (wN [(0, 3), (1, 1)] ?_))
   refine wD0h 0 [_] [_] Tryz.call14 (fawake_d) HM136 [] fun W138 HM139 => ?_
   refine wT [1] ?_
   refine wZ (wp_ret (bodyPost_ret (results_tmp rfl _ _ _) rfl ?_))
   exact does_ret (Mem.only (M := [_]) HM139.out [0] rfl) rfl rfl
 ·have hpr := Lib.hid hpr'
  clear hpr'
  refine wN [(0, 1), (1, 3), (2, 1), (3, 3), (4, 1), (5, 1)] (wT [0] ?_)
  refine wD1h 1 [_, _, _, _, _] [_, _, _, _, _] Tryz.call12 (fnew0_d part hpr.out) HM16 [] fun W141 HM142 => ?_
  refine wT [2] ?_
  refine wD1h 3 [_, _, _, _, _] [_, _, _, _, _] Tryz.call13 (rnewc0_d part hpr.out) HM142 [] fun W144 HM145 => ?_
  refine wT [4, 5] ?_
  refine wZ (wp_seq (wp_seq (wQ ?_)))
  refine wp_cond_false rfl (wp_skip (then_normal (wp_seq (wp_seq (wQ ?_)))))
  refine wp_cond_true rfl (wp_seq (wN [(0, 3), (1, 1)] ?_))
  refine wD0h 0 [_, _, _, _, _] [_, _, _, _, _] Tryz.call14 (fawake_d) HM145 [] fun W147 HM148 => ?_
  refine wT [1] ?_
  refine wZ (wp_ret (then_ret (bodyPost_ret (results_tmp rfl _ _ _) rfl ?_)))
  exact does_ret (Mem.only (M := [_]) HM148.out [4] rfl) rfl rfl
end Go.Proofs.YtcbnhakfijiioaaGreat
