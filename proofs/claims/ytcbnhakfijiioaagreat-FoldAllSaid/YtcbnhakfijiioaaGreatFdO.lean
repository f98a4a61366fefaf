/- Cursors: FoldOrder. -/
import Derived.Test.YtcbnhakfijiioaaGreatFdY
import Derived.Test.YtcbnhakfijiioaaGreatVtY
import Derived.Test.YtcbnhakfijiioaaGreatPA
namespace Go.Proofs.YtcbnhakfijiioaaGreat
open Go Go.RowKit Go.BigFrame
theorem hasK_putV {X : Vl2} (_hK : Kept X) {q : ByteArray} (node : Int) (k : ByteArray) (known : Nat → Int) (t : ByteArray) (h : hasK X.1 q = true) : hasK (putV X node k known t).1.1 q = true := by
 rcases putV_ways X node k known t with ⟨x, e, _⟩ | ⟨e, _, h1⟩
 ·rw [e]
  show hasK (countD X.1 (kbD (X.1.dots + 1) k x)) q = true
  rw [hasK_put (d := kbD (X.1.dots + 1) k x) rfl, h]
  rfl
 ·rw [h1]
  exact h
theorem put_len1 (X : Vl2) (node : Int) (k : ByteArray) (known : Nat → Int) (t : ByteArray) : (putV X node k known t).1.2.l.length ≤ X.2.l.length + 1 := by
 rcases putV_ways X node k known t with ⟨x, e, _⟩ | ⟨e, _, h1⟩
 ·rw [e]
  show (X.2.l ++ [_]).length ≤ _
  rw [List.length_append]
  exact Nat.le_refl _
 ·rw [h1]
  exact Nat.le_succ _
section
variable {X : Vl2} {F : Fd} {ks : List ByteArray} {i : Nat} {y : ByteArray} {m : Int}
theorem fold_step (hT : Told F ks i) (hF : FdOk F) (hp : F.part = m) (hk : keysV X.1 m = ks) (hs : ks.Pairwise ltK) (hy : ks[i]? = some y) : ∃ F2, nextF F (keysV X.1 F.part) = (F2, some y) ∧ Told F2 ks (i + 1) ∧ FdOk F2 ∧ F2.part = m := by
 rw [hp, hk]
 obtain ⟨h1, h2, _⟩ := hT.next hs
 refine ⟨(nextF F ks).1, Prod.ext rfl (h1.trans hy), h2 (List.getElem?_eq_some_iff.1 hy).1, hF.next ks, (next_part F ks).trans hp⟩
theorem fold_over (hT : Told F ks i) (hp : F.part = m) (hk : keysV X.1 m = ks) (hs : ks.Pairwise ltK) (hy : ks[i]? = some y) : overF F (keysV X.1 F.part) = false := by
 rw [hp, hk]
 unfold overF
 rw [(hT.next hs).1, hy]
 rfl
theorem fold_of (hk : keysV X.1 m = ks) {j : Nat} (hy : ks[j]? = some y) : ofK y = m := by
 rw [← hk] at hy
 exact (mem_keysV.1 (List.mem_of_getElem? hy)).2
theorem fold_no (hT : Told F ks i) (hp : F.part = m) (hk : keysV X.1 m = ks) (hs : ks.Pairwise ltK) (hy : ks[i]? = some y) : backB F y = false ∧ backF F y = F := by
 have h1 : backB F y = false := by
  rw [hT.back hs hy ((fold_of hk hy).trans hp.symm)]
  exact decide_eq_false (Nat.lt_irrefl i)
 refine ⟨h1, ?_⟩
 unfold backF
 rw [h1]
 rfl
theorem fold_yes (hT : Told F ks i) (hF : FdOk F) (hp : F.part = m) (hk : keysV X.1 m = ks) (hs : ks.Pairwise ltK) {j : Nat} {z : ByteArray} (hz : ks[j]? = some z) (hj : j < i) : ∃ F3, backB F z = true ∧ backF F z = F3 ∧ FdOk F3 ∧ F3.part = m ∧ F3.due = [z] ∧ nextF F3 (keysV X.1 F3.part) = (F, some z) := by
 have h1 : backB F z = true := by
  rw [hT.back hs hz ((fold_of hk hz).trans hp.symm)]
  exact decide_eq_true hj
 obtain ⟨h2, h3⟩ := hT.due1 h1 (List.mem_of_getElem? hz)
 refine ⟨backF F z, h1, rfl, hF.back z, (back_part F z).trans hp, by rw [h2], ?_⟩
 rw [back_part, hp, hk]
 exact h3
theorem fold_end (hT : Told F ks i) (hF : FdOk F) (hp : F.part = m) (hk : keysV X.1 m = ks) (hs : ks.Pairwise ltK) (hi : ks.length ≤ i) : ∃ F2, nextF F (keysV X.1 F.part) = (F2, none) ∧ FdOk F2 ∧ F2.part = m ∧ F2.due = [] ∧ Told F2 ks i ∧ overF F2 (keysV X.1 F2.part) = true := by
 obtain ⟨h1, _, h3⟩ := hT.next hs
 have hT2 := h3 hi
 rw [hp, hk]
 refine ⟨(nextF F ks).1, Prod.ext rfl (h1.trans (List.getElem?_eq_none hi)), hF.next ks, (next_part F ks).trans hp, hT2.due, hT2, ?_⟩
 rw [next_part, hp, hk]
 unfold overF
 rw [(hT2.next hs).1, List.getElem?_eq_none hi]
 rfl
end
theorem run_neS {x y : Operand} {tt : TypeId} {a : Act} {o : Oper} {W : World} {s t : ByteArray} {b : Bool} (hb : (!decide (s = t)) = b) (ho : o.op = .binOp .neq 9 x y tt) (hx : a.eval x = .string s) (hy : a.eval y = .string t) : (execOp a.eval o).run Tryz.prog W = .ok (.value (.bool b)) W := by
 subst hb
 have hg : (eqGuard .neq 9 x y (.string s) (.string t)).run Tryz.prog W = .ok () W := by simp [eqGuard, go_sem]
 unfold execOp
 simp only [ho, hx, hy, Sem.run_bind, hg, Result.andThen_ok, binOp_string_neq, Sem.run_pure]
 rw [← bytes_beq]
def kV9 : ByteArray := ⟨#[118]⟩
set_option maxHeartbeats 4000000 in
set_option maxRecDepth 100000 in
theorem forder_d (R : At) (v : Value) (l : List Int) (hR : ∀ W H, R.p W H → RowAt elemI W v l) (part : Int) : Does Tryz.prog 6 #[v, .int .i64 part] [R] (.bool true) [R] := by
 intro w H hp
 have HM0 := Lib.hid (mem_refl hp)
 clear hp
 obtain ⟨p, cap, rfl, -⟩ := (HM0.out.row 0 rfl hR).form
 go_enter Tryz.func6, Tryz.ntmps6
 refine wp_seq (wQ ?_)
 refine wp_seq (wp_seq ?_)
 by_cases hl60 : 60 < l.length
 ·have g1 : decide ((60 : Int) < (l.length : Int)) = true := decide_eq_true (by omega)
  have g1' : decide (60 < l.length) = true := decide_eq_true hl60
  refine wQ ?_
  refine wp_cond_true rfl (wp_seq (wN [(0, 3), (1, 1)] ?_))
  refine wD0h 0 [_] [_] Tryz.call14 (fawake_d) HM0 [] fun W2 HM3 => ?_
  refine wT [1] ?_
  refine wZ (wp_ret (then_ret (bodyPost_ret (results_tmp rfl _ _ _) rfl ?_)))
  exact does_ret (Mem.only (M := [_]) HM3.out [0] rfl) rfl rfl
 ·have g1 : decide ((60 : Int) < (l.length : Int)) = false := decide_eq_false (by omega)
  have g1' : decide (60 < l.length) = false := decide_eq_false hl60
  refine wQ ?_
  refine wp_cond_false rfl (wp_skip (then_normal (wp_seq ?_)))
  obtain ⟨m, hm', hm16⟩ := mod_part part
  have hm := Lib.hid hm'
  clear hm'
  refine wN [(0, 1), (1, 1), (2, 1), (3, 1), (4, 1)] (wT [0, 1, 2] ?_)
  refine wT [3] ?_
  rw [hm.out]
  refine wT [4] ?_
  refine wZ (wp_seq (wN [(0, 3), (1, 3), (2, 1)] ?_))
  refine wU1 0 [_] Tryz.call9 (lnew_d 200) HM0 [] fun u6 W5 hm4 => ?_
  obtain ⟨dl, rfl, hm4q⟩ := Mem.lgN hm4
  clear hm4
  have HM7 := Lib.hid hm4q
  clear hm4q
  refine wU1 1 [_] Tryz.call8 (vopen_d dl (newL 200) (LgOk.new 200)) HM7 [0] fun u10 W9 hm8 => ?_
  obtain ⟨dv, rfl, hm8q⟩ := Mem.vtN hm8
  clear hm8
  have HM11 := Lib.hid hm8q
  clear hm8q
  refine wT [2] ?_
  refine wZ (wp_seq (wp_seq (wQ ?_)))
  refine wp_block ?_
  refine wp_loop_F [7, 30, 31, 32, 33, 34, 35, 36, 37, 38, 39] (fun n vs W' => ∃ (i : Nat) (X : Vl2), n = l.length - i ∧ vs 30 = .int .i64 (i : Int) ∧ i ≤ l.length ∧ Kept X ∧ X.2.l.length ≤ i ∧ Mem [vtT dv dl X.1, lgT dl X.2, R] H w W') (n0 := l.length) ?_ ?_
  ·exact ⟨0, _, rfl, rfl, Nat.zero_le _, Kept.open (LgOk.new 200), Nat.le_refl _, (Mem.only (M := [_, _, _]) HM11.out [0, 0, 0] rfl)⟩
  rintro n vs W' ⟨i, X, rfl, e30, hi, hX', hxl', hm⟩
  simp only [putAll, List.map_cons, List.map_nil, Act.put, List.setIfInBounds_toArray, List.set_cons_succ, List.set_cons_zero]
  rw [e30]
  clear e30
  have hX := Lib.hid hX'
  clear hX'
  have hxl := Lib.hid hxl'
  clear hxl'
  have HM12 := Lib.hid hm
  clear hm
  refine wp_seq (wQ ?_)
  refine wp_seq ?_
  refine wp_cond_split rfl (fun h13 => ?_) (fun h13 => ?_)
  ·have hi1 : i + 1 ≤ l.length := by have : (i : Int) < ((l.length : Nat) : Int) := (by simpa using h13); omega
   clear h13
   obtain ⟨y, hy'⟩ : ∃ y, l[i]? = some y := ⟨_, List.getElem?_eq_getElem (hi1)⟩
   have hy := Lib.hid hy'
   clear hy'
   refine wp_skip (then_normal (wp_seq (wp_block (wp_seq (wN [(0, 1), (1, 1), (2, 1)] ?_)))))
   refine wI elemI 0 (HM12.out.row 2 rfl hR) (hy.out) fun eb14 eo15 hc16 => ?_
   refine wM 1 (.int .i64 y) (hc16 0 _ rfl) Tryz.underlying3 ?_
   refine wT [2] ?_
   refine wZ (wN [(0, 1), (1, 1), (2, 3), (3, 1), (4, 3)] (wT [0, 1] ?_))
   refine wD1h 2 [_, _, _] [_, _, _] Tryz.call15 (key_d y) HM12 [] fun W18 HM19 => ?_
   refine wR 3 (v := vV (fun _ => 0)) (by kernel_rfl) ?_
   refine wD5h 4 [_] [_, _, _] Tryz.call25 (vput_d dv dl X hX.out 0 (keyN y) (fun _ => 0) kV9) HM19 [0, 0] fun W21 HM22 => ?_
   refine wpS_nil (block_normal (then_normal (wQ ?_)))
   refine ⟨by kernel_rfl, ?_⟩
   exact ⟨l.length - (i + 1), by omega, i + 1, _, rfl, rfl, hi1, hX.out.put 0 (keyN y) (fun _ => 0) kV9, Nat.le_trans (put_len1 _ _ _ _ _) (Nat.succ_le_succ hxl.out), (Mem.only (M := [_, _, _]) HM22.out [0, 0, 0] rfl)⟩
  ·have hgi : l.length ≤ i := by have : ¬ (i : Int) < (l.length : Int) := (by simpa using h13); omega
   clear h13
   refine wp_exit ?_
   refine then_exit (then_exit (block_exit ?_))
   refine then_normal (wp_seq (wN [(0, 1), (1, 3), (2, 1)] (wT [0] ?_)))
   refine wU1 1 [_, _, _] Tryz.call12 (fnew_d (m : Int) ⟨by omega, by omega⟩) HM12 [] fun u25 W24 hm23 => ?_
   obtain ⟨c, rfl, hm23q⟩ := Mem.fdN hm23
   clear hm23
   have HM26 := Lib.hid hm23q
   clear hm23q
   refine wT [2] ?_
   refine wZ (wp_seq ?_)
   have hi60 : i ≤ 60 := by omega
   have hbl : Hid (X.1.b.length ≤ 3000) := Lib.hid (by have h1 := hX.out.len; have h2 := hxl.out; omega)
   obtain ⟨ks, hks'⟩ : ∃ z, keysV X.1 (m : Int) = z := ⟨_, rfl⟩
   have hkl : ks.length ≤ 60 := by rw [← hks']; have h1 := hX.out.len; have h2 := hxl.out; have h3 := keysV_le X.1 (m : Int); omega
   have hks := Lib.hid hks'
   clear hks'
   have hsr : Hid (ks.Pairwise ltK) := Lib.hid (by rw [← hks.out]; exact keysV_srt hX.out.ok.srt _)
   refine wN [(0, 1), (1, 1), (2, 3), (3, 1)] (wT [0, 1] ?_)
   refine wU2 2 [_, _, _] Tryz.call30 (vkeys_e hX.out.ok hbl.out hks.out) HM26 [1] fun u29 W28 hm27 => ?_
   obtain ⟨pk, ck, rfl, hm27q⟩ := Mem.texts rfl hm27
   clear hm27
   have HM30 := Lib.hid hm27q
   clear hm27q
   refine wT [3] ?_
   refine wZ (wp_seq (wp_seq (wQ ?_)))
   refine wp_block ?_
   refine wp_loop_F [4, 10, 11, 12, 13, 14, 15, 47, 48, 49, 50, 51, 52, 53, 54, 55, 56, 57, 58, 59, 60, 61, 62, 63, 64, 65, 66, 67, 68, 69, 70, 71, 72, 73, 74, 75, 76, 77, 78, 79, 80, 81, 82, 83, 84, 85, 86, 87, 88, 89, 90, 91, 92, 93, 94, 95, 96, 97, 98, 99, 100, 101, 102, 103, 104] (fun n us W' => ∃ (j : Nat) (F : Fd), n = ks.length - j ∧ us 47 = .int .i64 (j : Int) ∧ j ≤ ks.length ∧ Told F ks j ∧ FdOk F ∧ F.part = (m : Int) ∧ Mem [fdT c F, vtT dv dl X.1, rowT elemS (.slice pk ks.length ck) ks, R] H w W') (n0 := ks.length) ?_ ?_
   ·exact ⟨0, _, rfl, rfl, Nat.zero_le _, Told.new _ _, FdOk.new (n := (m : Int)) ⟨by omega, by omega⟩, rfl, (Mem.only (M := [_, _, _, _]) HM30.out [2, 1, 0, 1] rfl)⟩
   rintro n us W' ⟨j, F, rfl, e47, hj, hT', hF', hp', hm2⟩
   simp only [putAll, List.map_cons, List.map_nil, Act.put, List.setIfInBounds_toArray, List.set_cons_succ, List.set_cons_zero]
   rw [e47]
   clear e47
   have hT := Lib.hid hT'
   clear hT'
   have hF := Lib.hid hF'
   clear hF'
   have hp := Lib.hid hp'
   clear hp'
   have HM31 := Lib.hid hm2
   clear hm2
   refine wp_seq (wQ ?_)
   refine wp_seq ?_
   refine wp_cond_split rfl (fun h32 => ?_) (fun h32 => ?_)
   ·have hj1 : j + 1 ≤ ks.length := by have : (j : Int) < ((ks.length : Nat) : Int) := (by simpa using h32); omega
    clear h32
    obtain ⟨k, hk'⟩ : ∃ y, ks[j]? = some y := ⟨_, List.getElem?_eq_getElem (hj1)⟩
    have hk := Lib.hid hk'
    clear hk'
    refine wp_skip (then_normal (wp_seq (wp_block (wp_seq (wN [(0, 1), (1, 1), (2, 1), (3, 1), (4, 1)] (wT [0] ?_))))))
    refine wI elemS 1 (HM31.out.row 2 rfl vRow) (hk.out) fun eb33 eo34 hc35 => ?_
    refine wM 2 (.string k) (hc35 0 _ rfl) Tryz.underlying9 ?_
    refine wT [3, 4] ?_
    refine wZ (wp_seq (wp_seq ?_))
    have hov := Lib.hid (fold_over (X := X) hT.out hp.out hks.out hsr.out hk.out)
    have hno := Lib.hid (fold_no (X := X) hT.out hp.out hks.out hsr.out hk.out)
    refine wN [(0, 1), (1, 1), (2, 3), (3, 1), (4, 1), (5, 1), (6, 3), (7, 1)] (wT [0, 1] ?_)
    refine wD2h 2 [_, _] [_, _, _, _] Tryz.call21 (fover_e hF.out hX.out.ok hbl.out hov.out) HM31 [0, 0] fun W37 HM38 => ?_
    refine wT [3, 4, 5] ?_
    refine wD2h 6 [_, _, _] [_, _, _, _] Tryz.call19 (fback_e hF.out hno.out.1 hno.out.2 (key_part hF.out ((fold_of hks.out hk.out).trans hp.out.symm)) (by rw [hT.out.due]; decide)) HM38 [0] fun W40 HM41 => ?_
    refine wT [7] ?_
    refine wZ (wp_cond_false rfl (wp_skip (then_normal (wp_seq ?_))))
    obtain ⟨F2, hn2', hT2', hF2', hp2'⟩ := fold_step (X := X) hT.out hF.out hp.out hks.out hsr.out hk.out
    have hn2 := Lib.hid hn2'
    clear hn2'
    have hT2 := Lib.hid hT2'
    clear hT2'
    have hF2 := Lib.hid hF2'
    clear hF2'
    have hp2 := Lib.hid hp2'
    clear hp2'
    refine wN [(0, 1), (1, 1), (2, 3), (3, 1), (4, 1), (5, 1), (6, 3), (7, 3), (8, 1)] (wT [0, 1] ?_)
    refine wU2 2 [_, _] Tryz.call16 (fnext_s hF.out hX.out.ok hbl.out hn2.out) HM41 [0, 0] fun u44 W43 hm42 => ?_
    obtain ⟨pw, cw, rfl, hm42q⟩ := Mem.pair rfl hm42
    clear hm42
    have HM45 := Lib.hid hm42q
    clear hm42q
    refine wT [3, 4, 5] ?_
    refine wpS_alloc (i := 6) (dd := 12) (z := prV ⟨#[]⟩ noB.k (.slice none 0 0)) (cs := (prC ⟨#[]⟩ noB.k (.slice none 0 0)).toArray) rfl (by rfl) rfl (by kernel_rfl) rfl HM45.out covS_nil rfl ?_
    rintro b48 W47 hm46 -
    have HM49 := Lib.hid hm46
    clear hm46
    simp only [Act.put, List.setIfInBounds_toArray, List.set_cons_succ, List.set_cons_zero]
    refine wXkh (hone := (prC_one _ _ _)) 7 [_, _, _, _, _] (prC k (bagV X.1 k).k (.slice pw (bagV X.1 k).v.length cw)) HM49 0 fun W51 HM52 => ?_
    refine wT [8] ?_
    refine wZ (wp_seq (wp_seq ?_))
    rcases Nat.eq_zero_or_pos j with hj0 | hj0
    ·subst hj0
     refine wN [(0, 1), (1, 1), (2, 1), (3, 1), (4, 1), (5, 1), (6, 1), (7, 1), (8, 1), (9, 1), (10, 1), (11, 1), (12, 1), (13, 1), (14, 1), (15, 1), (16, 3), (17, 1), (18, 1), (19, 1)] (wT [0, 1, 2, 3] ?_)
     refine wM 4 (.string k) (HM52.out.part1 0 rfl prC_key) Tryz.underlying9 ?_
     refine wT [5] ?_
     refine wR 6 (run_neS (b := false) (s := k) (t := k) (by rw [decide_eq_true rfl]; rfl) rfl rfl rfl) ?_
     refine wT [7, 8, 9, 10, 11, 12, 13] ?_
     refine wK 14 ?_
     refine wK 15 ?_
     refine wK 16 ?_
     refine wT [17, 18, 19] ?_
     refine wZ (wp_cond_false rfl (wp_skip (then_normal (wp_seq (wQ ?_)))))
     refine wp_cond_false rfl (wp_skip (block_normal (then_normal (wQ ?_))))
     refine ⟨by kernel_rfl, ?_⟩
     exact ⟨ks.length - (0 + 1), by omega, 0 + 1, F2, rfl, rfl, hj1, hT2.out, hF2.out, hp2.out, (Mem.only (M := [_, _, _, _]) HM52.out [2, 2, 2, 2] rfl)⟩
    ·have g18 : decide ((0 : Int) < (j : Int)) = true := decide_eq_true (by omega)
     have g18' : decide (0 < j) = true := decide_eq_true hj0
     obtain ⟨z, hz'⟩ : ∃ z, ks[0]? = some z := ⟨_, List.getElem?_eq_getElem (by omega)⟩
     have hz := Lib.hid hz'
     clear hz'
     obtain ⟨F3, hb3', hb4', hF3', hp3', hd3', hn3'⟩ := fold_yes (X := X) hT2.out hF2.out hp2.out hks.out hsr.out hz.out (by omega : 0 < j + 1)
     have hb3 := Lib.hid hb3'
     clear hb3'
     have hb4 := Lib.hid hb4'
     clear hb4'
     have hF3 := Lib.hid hF3'
     clear hF3'
     have hp3 := Lib.hid hp3'
     clear hp3'
     have hd3 := Lib.hid hd3'
     clear hd3'
     have hn3 := Lib.hid hn3'
     clear hn3'
     refine wN [(0, 1), (1, 1), (2, 1), (3, 1), (4, 1), (5, 1), (6, 1), (7, 1), (8, 1), (9, 1), (10, 1), (11, 1), (12, 1), (13, 1), (14, 1), (15, 1), (16, 3), (17, 1), (18, 1), (19, 1)] (wT [0, 1, 2, 3] ?_)
     refine wM 4 (.string k) (HM52.out.part1 0 rfl prC_key) Tryz.underlying9 ?_
     refine wT [5] ?_
     refine wR 6 (run_neS (b := false) (s := k) (t := k) (by rw [decide_eq_true rfl]; rfl) rfl rfl rfl) ?_
     refine wT [7, 8, 9, 10, 11, 12, 13] ?_
     refine wI elemS 14 (HM52.out.row 4 rfl vRow) (hz.out) fun eb53 eo54 hc55 => ?_
     refine wM 15 (.string z) (hc55 0 _ rfl) Tryz.underlying9 ?_
     refine wD2h 16 [_, _, _, _, _] [_, _, _, _, _, _] Tryz.call19 (fback_e hF2.out hb3.out hb4.out (key_part hF2.out ((fold_of hks.out hz.out).trans hp2.out.symm)) (by rw [hT2.out.due]; decide)) HM52 [2] fun W57 HM58 => ?_
     refine wT [17, 18, 19] ?_
     refine wZ (wp_cond_false rfl (wp_skip (then_normal (wp_seq (wQ ?_)))))
     refine wp_cond_true rfl (wp_seq (wN [(0, 1), (1, 1), (2, 3), (3, 1), (4, 1), (5, 1), (6, 3), (7, 3), (8, 1)] (wT [0, 1] ?_)))
     refine wU2 2 [_, _, _, _] Tryz.call16 (fnext_s hF3.out hX.out.ok hbl.out hn3.out) HM58 [0, 2] fun u61 W60 hm59 => ?_
     obtain ⟨pz, cz, rfl, hm59q⟩ := Mem.pair rfl hm59
     clear hm59
     have HM62 := Lib.hid hm59q
     clear hm59q
     refine wT [3, 4, 5] ?_
     refine wpS_alloc (i := 6) (dd := 14) (z := prV ⟨#[]⟩ noB.k (.slice none 0 0)) (cs := (prC ⟨#[]⟩ noB.k (.slice none 0 0)).toArray) rfl (by rfl) rfl (by kernel_rfl) rfl HM62.out covS_nil rfl ?_
     rintro b65 W64 hm63 -
     have HM66 := Lib.hid hm63
     clear hm63
     simp only [Act.put, List.setIfInBounds_toArray, List.set_cons_succ, List.set_cons_zero]
     refine wXkh (hone := (prC_one _ _ _)) 7 [_, _, _, _, _, _, _] (prC z (bagV X.1 z).k (.slice pz (bagV X.1 z).v.length cz)) HM66 0 fun W68 HM69 => ?_
     refine wT [8] ?_
     refine wZ (wp_seq ?_)
     refine wp_region_M (fun k => k ∈ ([] : List Nat)) [(0, 1), (1, 1), (2, 1), (3, 1), (4, 1), (5, 1), (6, 1), (7, 1), (8, 1), (9, 1)] (by kernel_rfl) (by kernel_rfl) HM69.out ?_
     intro W70 hm71
     have HM72 := Lib.hid hm71
     clear hm71
     refine wT [0, 1, 2, 3] ?_
     refine wM 4 (.string z) (HM72.out.part1 0 rfl prC_key) Tryz.underlying9 ?_
     refine wT [5] ?_
     refine wI elemS 6 (HM72.out.row 6 rfl vRow) (hz.out) fun eb73 eo74 hc75 => ?_
     refine wM 7 (.string z) (hc75 0 _ rfl) Tryz.underlying9 ?_
     refine wR 8 (run_neS (b := false) (s := z) (t := z) (by rw [decide_eq_true rfl]; rfl) rfl rfl rfl) ?_
     refine wT [9] ?_
     refine wZ (wp_cond_false rfl (wp_skip (block_normal (then_normal (wQ ?_)))))
     refine ⟨by kernel_rfl, ?_⟩
     exact ⟨ks.length - (j + 1), by omega, j + 1, F2, rfl, rfl, hj1, hT2.out, hF2.out, hp2.out, (Mem.only (M := [_, _, _, _]) HM72.out [2, 2, 4, 4] rfl)⟩
   ·have hge : Hid (ks.length ≤ j) := Lib.hid (by have : ¬ (j : Int) < (ks.length : Int) := (by simpa using h32); omega)
    clear h32
    refine wp_exit ?_
    refine then_exit (then_exit (block_exit ?_))
    refine then_normal (wp_seq ?_)
    obtain ⟨F4, hne', hF4', hp4', hd4', hT4', hov4'⟩ := fold_end (X := X) hT.out hF.out hp.out hks.out hsr.out hge.out
    have hne := Lib.hid hne'
    clear hne'
    have hF4 := Lib.hid hF4'
    clear hF4'
    have hp4 := Lib.hid hp4'
    clear hp4'
    have hd4 := Lib.hid hd4'
    clear hd4'
    have hT4 := Lib.hid hT4'
    clear hT4'
    have hov4 := Lib.hid hov4'
    clear hov4'
    refine wN [(0, 1), (1, 1), (2, 3), (3, 1), (4, 1), (5, 1), (6, 3), (7, 3), (8, 1)] (wT [0, 1] ?_)
    refine wU2 2 [_, _] Tryz.call16 (fnext_n hF.out hX.out.ok hbl.out hne.out) HM31 [0, 0] fun u78 W77 hm76 => ?_
    obtain ⟨pz, cz, rfl, hm76q⟩ := Mem.pair rfl hm76
    clear hm76
    have HM79 := Lib.hid hm76q
    clear hm76q
    refine wT [3, 4, 5] ?_
    refine wpS_alloc (i := 6) (dd := 16) (z := prV ⟨#[]⟩ noB.k (.slice none 0 0)) (cs := (prC ⟨#[]⟩ noB.k (.slice none 0 0)).toArray) rfl (by rfl) rfl (by kernel_rfl) rfl HM79.out covS_nil rfl ?_
    rintro b82 W81 hm80 -
    have HM83 := Lib.hid hm80
    clear hm80
    simp only [Act.put, List.setIfInBounds_toArray, List.set_cons_succ, List.set_cons_zero]
    refine wXkh (hone := (prC_one _ _ _)) 7 [_, _, _, _, _] (prC ⟨#[]⟩ noB.k (.slice pz noB.v.length cz)) HM83 0 fun W85 HM86 => ?_
    refine wT [8] ?_
    refine wZ (wp_seq (wN [(0, 1), (1, 1), (2, 1), (3, 1), (4, 1), (5, 3), (6, 1), (7, 1), (8, 1), (9, 3), (10, 1), (11, 1), (12, 1), (13, 1), (14, 3), (15, 1), (16, 1)] (wT [0, 1, 2, 3, 4] ?_)))
    refine wD2h 5 [_, _, _, _] [_, _, _, _, _, _] Tryz.call21 (fover_e hF4.out hX.out.ok hbl.out hov4.out) HM86 [2, 2] fun W88 HM89 => ?_
    refine wT [6, 7, 8] ?_
    refine wU1 9 [_, _, _, _, _] Tryz.call27 (fdue_e hF4.out hd4.out) HM89 [0] fun u92 W91 hm90 => ?_
    obtain ⟨pd, cd, rfl, hm90q⟩ := Mem.texts rfl hm90
    clear hm90
    have HM93 := Lib.hid hm90q
    clear hm90q
    refine wT [10, 11, 12, 13] ?_
    refine wD0h 14 [_, _, _, _, _, _, _] [_, _, _, _, _, _, _] Tryz.call14 (fawake_d) HM93 [] fun W95 HM96 => ?_
    refine wT [15, 16] ?_
    refine wZ (wp_ret (bodyPost_ret (results_tmp rfl _ _ _) rfl ?_))
    exact does_ret (Mem.only (M := [_]) HM96.out [6] rfl) rfl rfl
end Go.Proofs.YtcbnhakfijiioaaGreat
