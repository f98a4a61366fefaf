/- Givers: GiveAll. -/
import Derived.Test.YtcchkkdbagpgjaaGreatQ11
import Derived.Test.YtcchkkdbagpgjaaGreatQ15
import Derived.Test.YtcchkkdbagpgjaaGreatGvB
import Derived.Test.YtcchkkdbagpgjaaGreatBgL
import Derived.Test.YtcchkkdbagpgjaaGreatPA
namespace Go.Proofs.YtcchkkdbagpgjaaGreat
open Go Go.RowKit Go.BigFrame
theorem mod_lenA (n : Int) {m : Nat} (h : 1 ≤ m) (h2 : m ≤ 1000) : ∃ q : Nat, wrap64 ((IntKind.u64.wrap n).tmod (m : Int)) = (q : Int) ∧ q < m := by
 obtain ⟨a, ha⟩ := u64_letter n
 rw [ha]
 have h3 := Nat.mod_lt a (show 0 < m from h)
 refine ⟨a % m, ?_, h3⟩
 rw [Int.tmod_eq_emod_of_nonneg (by omega), ← Int.natCast_emod]
 unfold wrap64
 omega
def ansX (x : Mx) : Mx := ⟨ansM x.m, x.vp, x.vn, x.vc, x.rp, x.rn, x.rc, x.cp, x.cn, x.cc⟩
def endX (x : Mx) : Ms := ⟨8, 1, 0, 0, 0, 0, x.m.part, x.m.epoch, ⟨#[]⟩, noB, noR⟩
theorem own_ans {A : At} {x : Mx} (h : OwnM A x) : OwnM A (ansX x) := ⟨h.rd, h.n⟩
theorem own_end {A : At} {x : Mx} : OwnM A (mxOf (endX x) none 0) := ⟨vNil _, rfl, rfl, rfl, rfl, rfl, rfl, rfl⟩
theorem own_la {A : At} {rs : List At} {x : Mx} (h : OwnM A x) : OwnM (listT (rs ++ [A])) x := ⟨reads_la h.rd, h.n⟩
theorem map_snoc (xs : List Mx) (y : Mx) : (xs ++ [y]).map (fun x => x.m) = xs.map (fun x => x.m) ++ [y.m] := by rw [List.map_append]; rfl
theorem map_app (xs ys : List Mx) : (xs ++ ys).map (fun x => x.m) = xs.map (fun x => x.m) ++ ys.map (fun x => x.m) := List.map_append
set_option maxHeartbeats 4000000 in
set_option maxRecDepth 100000 in
theorem gall_d (R : At) (v : Value) (l : List Cx) (hR : ∀ W H, R.p W H → RowAt elemCx W v l) (part : Int) : Does Tryz.prog 5 #[.int .i64 part, v] [R] (.bool true) [R] := by
 intro w H hp
 have HM0 := Lib.hid (mem_refl hp)
 clear hp
 obtain ⟨p, cap, rfl, -⟩ := (HM0.out.row 0 rfl hR).form
 go_enter Tryz.func5, Tryz.ntmps5
 refine wp_seq (wQ ?_)
 refine wp_seq (wp_seq ?_)
 cases hl' : litGv l
 ·have hl := Lib.hid hl'
  clear hl'
  refine wN [(0, 1), (1, 3), (2, 1)] (wT [0] ?_)
  refine wD1 1 [] [_] Tryz.call9 (glight_d R _ l hR) HM0 [0] fun W2 hm1 => ?_
  rw [hl.out]
  have HM3 := Lib.hid hm1
  clear hm1
  refine wT [2] ?_
  refine wZ (wp_cond_true rfl (wp_seq (wN [(0, 3), (1, 1)] ?_)))
  refine wD0h 0 [_] [_] Tryz.call10 (gawake_d) HM3 [] fun W5 HM6 => ?_
  refine wT [1] ?_
  refine wZ (wp_ret (then_ret (bodyPost_ret (results_tmp rfl _ _ _) rfl ?_)))
  exact does_ret (Mem.only (M := [_]) HM6.out [0] rfl) rfl rfl
 ·have hl := Lib.hid hl'
  clear hl'
  refine wN [(0, 1), (1, 3), (2, 1)] (wT [0] ?_)
  refine wD1 1 [] [_] Tryz.call9 (glight_d R _ l hR) HM0 [0] fun W8 hm7 => ?_
  rw [hl.out]
  have HM9 := Lib.hid hm7
  clear hm7
  refine wT [2] ?_
  refine wZ (wp_cond_false rfl (wp_skip (then_normal (wp_seq ?_))))
  obtain ⟨P, hP', hP16⟩ := mod_part part
  have hP := Lib.hid hP'
  clear hP'
  refine wN [(0, 1), (1, 1), (2, 1), (3, 1), (4, 1)] (wT [0, 1, 2] ?_)
  refine wT [3] ?_
  rw [hP.out]
  refine wT [4] ?_
  refine wZ (wp_seq ?_)
  have hl80 := (litGv_of hl.out).1
  refine wN [(0, 3), (1, 3), (2, 3), (3, 3), (4, 1), (5, 1)] ?_
  refine wU1 0 [_] Tryz.call12 (lnew_d 400) HM9 [] fun u12 W11 hm10 => ?_
  obtain ⟨dl, rfl, hm10q⟩ := Mem.lgN hm10
  clear hm10
  have HM13 := Lib.hid hm10q
  clear hm10q
  refine wU1 1 [_] Tryz.call11 (vopen_d dl (newL 400) (LgOk.new 400)) HM13 [0] fun u16 W15 hm14 => ?_
  obtain ⟨dv, rfl, hm14q⟩ := Mem.vtN hm14
  clear hm14
  have HM17 := Lib.hid hm14q
  clear hm14q
  refine wU1 2 [_, _, _] Tryz.call12 (lnew_d 3000) HM17 [] fun u20 W19 hm18 => ?_
  obtain ⟨dl2, rfl, hm18q⟩ := Mem.lgN hm18
  clear hm18
  have HM21 := Lib.hid hm18q
  clear hm18q
  refine wU1 3 [_, _, _] Tryz.call11 (vopen_d dl2 (newL 3000) (LgOk.new 3000)) HM21 [0] fun u24 W23 hm22 => ?_
  obtain ⟨dv2, rfl, hm22q⟩ := Mem.vtN hm22
  clear hm22
  have HM25 := Lib.hid hm22q
  clear hm22q
  refine wT [4, 5] ?_
  refine wZ (wp_seq (wN [(0, 1), (1, 3), (2, 1)] (wT [0] ?_)))
  refine wU4 1 [_, _, _, _, _] Tryz.call15 (gvnew_d 0 (P : Int) 1 1 ⟨by decide, by decide, by decide, ⟨by omega, by omega⟩, by decide⟩) HM25 [] fun u28 W27 hm26 => ?_
  obtain ⟨g, rfl, hm26q⟩ := Mem.gvN hm26
  clear hm26
  have HM29 := Lib.hid hm26q
  clear hm26q
  refine wT [2] ?_
  refine wZ (wp_seq (wQ ?_))
  refine wp_seq (wp_seq (wQ ?_))
  refine wp_block ?_
  have HS30 := Mem.nilRow elemMx (Mem.only (M := [_, _, _, _, _, _, _]) HM29.out [0, 0, 0, 0, 0, 0, 0] rfl)
  have HM31 := Lib.hid HS30
  clear HS30
  have HS32 := Mem.nilRow elemMx (Mem.only (M := [_, _, _, _, _, _, _, _]) HM31.out [0, 0, 0, 0, 0, 0, 0, 0] rfl)
  have HM33 := Lib.hid HS32
  clear HS32
  refine wp_loop_F [4, 8, 9, 11, 12, 13, 14, 15, 16, 18, 19, 20, 37, 38, 39, 40, 41, 42, 43, 44, 45, 46, 47, 48, 49, 50, 51, 52, 53, 54, 55, 56, 57, 58, 59, 60, 61, 62, 63, 64, 65, 66, 67, 68, 69, 70, 71, 72, 73, 74, 75, 76, 77, 78, 79, 80, 81, 82, 83, 84, 85, 86, 87, 88, 89, 90, 91, 92, 93, 94, 95, 96, 97, 98, 99, 100, 101, 102, 103, 104, 105, 106, 107, 108, 109, 110, 111, 112, 113, 114, 115, 116, 117, 118, 119, 120, 121, 122, 123, 124, 125, 126, 127, 128, 129, 130, 131, 132, 133, 134, 135, 136, 137, 138, 139, 140, 141, 142, 143, 144, 145, 146, 147, 148, 149, 150, 151, 152, 153, 154, 155, 156, 157, 158, 159, 160, 161, 162, 163, 164, 165, 166, 167, 168, 169, 170, 171, 172, 173, 174, 175, 176, 177, 178, 179, 180, 181, 182] (fun n vs W' => ∃ (i : Nat) (Hs : ByteArray → Bg → Prop) (X Y : Vl2) (G : Gv) (A : At) (xs bs : List Mx) (pm pb : Option Addr) (cm cb : Nat), n = l.length - i ∧ vs 37 = .int .i64 (i : Int) ∧ vs 8 = .slice pm xs.length cm ∧ vs 9 = .slice pb bs.length cb ∧ i ≤ l.length ∧ Al (P : Int) Hs X Y G (xs.map fun x => x.m) (bs.map fun x => x.m) i ∧ (∀ x ∈ xs, OwnM A x) ∧ (∀ x ∈ bs, OwnM A x) ∧ xs.length ≤ 400 ∧ bs.length ≤ 400 ∧ Mem [rowT elemMx (.slice pm xs.length cm) xs, rowT elemMx (.slice pb bs.length cb) bs, gvT g A G, A, vtT dv dl X.1, lgT dl X.2, vtT dv2 dl2 Y.1, lgT dl2 Y.2, R] H w W') (n0 := l.length) ?_ ?_
  ·exact ⟨0, _, _, _, _, _, [], [], none, none, 0, 0, rfl, rfl, rfl, rfl, Nat.zero_le _, Al.start ⟨by omega, by omega⟩, (fun x h => by cases h), (fun x h => by cases h), Nat.zero_le _, Nat.zero_le _, (Mem.only (M := [_, _, _, _, _, _, _, _, _]) HM33.out [1, 0, 0, 0, 2, 2, 0, 0, 0] rfl)⟩
  rintro n vs W' ⟨i, Hs, X, Y, G, A, xs, bs, pm, pb, cm, cb, rfl, e37, e8, e9, hi, hA', hxo', hbo', hxl, hbl, hm⟩
  simp only [putAll, List.map_cons, List.map_nil, Act.put, List.setIfInBounds_toArray, List.set_cons_succ, List.set_cons_zero]
  rw [e37, e8, e9]
  clear e37 e8 e9
  have hA := Lib.hid hA'
  clear hA'
  have hxo := Lib.hid hxo'
  clear hxo'
  have hbo := Lib.hid hbo'
  clear hbo'
  have HM34 := Lib.hid hm
  clear hm
  refine wp_seq (wQ ?_)
  refine wp_seq ?_
  refine wp_cond_split rfl (fun h35 => ?_) (fun h35 => ?_)
  ·have hi1 : i + 1 ≤ l.length := by have : (i : Int) < ((l.length : Nat) : Int) := (by simpa using h35); omega
   clear h35
   obtain ⟨y, hy'⟩ : ∃ y, l[i]? = some y := ⟨_, List.getElem?_eq_getElem (hi1)⟩
   have hy := Lib.hid hy'
   clear hy'
   have hi80 : i < 80 := by omega
   have hvl : Hid (X.1.b.length ≤ 3000) := Lib.hid (Nat.le_trans hA.out.bl (by omega))
   refine wp_skip (then_normal (wp_seq (wp_block (wp_seq (wN [(0, 1), (1, 1), (2, 3), (3, 3)] ?_)))))
   refine wI elemCx 0 (HM34.out.row 8 rfl hR) (hy.out) fun eb36 eo37 hc38 => ?_
   refine wL 1 (cxC y) hc38 Tryz.underlying54 ?_
   refine wpS_alloc (i := 2) (dd := 11) (z := .agg (cxC default).toArray) (cs := (cxC default).toArray) rfl (by rfl) rfl (by kernel_rfl) rfl HM34.out covS_nil rfl ?_
   rintro b41 W40 hm39 -
   have HM42 := Lib.hid hm39
   clear hm39
   simp only [Act.put, List.setIfInBounds_toArray, List.set_cons_succ, List.set_cons_zero]
   refine wXkh (hone := (List.all_eq_true.2 (elemCx.one y))) 3 [_, _, _, _, _, _, _, _, _] (cxC y) HM42 0 fun W44 HM45 => ?_
   refine wZ (wp_seq (wN [(0, 1), (1, 1), (2, 3), (3, 1)] (wT [0] ?_)))
   refine wM 1 (.int .i64 y.key) (HM45.out.part1 0 rfl cxC_key) Tryz.underlying3 ?_
   refine wD1h 2 [_, _, _, _, _, _, _, _, _, _] [_, _, _, _, _, _, _, _, _, _] Tryz.call17 (key_d y.key) HM45 [] fun W47 HM48 => ?_
   refine wT [3] ?_
   refine wZ (wp_seq (wp_seq (wN [(0, 1), (1, 1)] (wT [0] ?_))))
   refine wM 1 (.int .i64 y.act) (HM48.out.part1 0 rfl cxC_act) Tryz.underlying3 ?_
   refine wZ ?_
   refine wp_cut_F [4, 8, 9, 13, 14, 15, 16, 18, 19, 20, 46, 47, 48, 49, 50, 51, 52, 53, 54, 55, 56, 57, 58, 59, 60, 61, 62, 63, 64, 65, 66, 67, 68, 69, 70, 71, 72, 73, 74, 75, 76, 77, 78, 79, 80, 81, 82, 83, 84, 85, 86, 87, 88, 89, 90, 91, 92, 93, 94, 95, 96, 97, 98, 99, 100, 101, 102, 103, 104, 105, 106, 107, 108, 109, 110, 111, 112, 113, 114, 115, 116, 117, 118, 119, 120, 121, 122, 123, 124, 125, 126, 127, 128, 129, 130, 131, 132, 133, 134, 135, 136, 137, 138, 139, 140, 141, 142, 143, 144, 145, 146, 147, 148, 149, 150, 151, 152, 153, 154, 155, 156, 157, 158, 159, 160] (fun vs W' => ∃ (Hs : ByteArray → Bg → Prop) (X Y : Vl2) (G : Gv) (A : At) (xs bs : List Mx) (pm pb : Option Addr) (cm cb : Nat), vs 8 = .slice pm xs.length cm ∧ vs 9 = .slice pb bs.length cb ∧ Al (P : Int) Hs X Y G (xs.map fun x => x.m) (bs.map fun x => x.m) (i + 1) ∧ (∀ x ∈ xs, OwnM A x) ∧ (∀ x ∈ bs, OwnM A x) ∧ xs.length ≤ 409 ∧ bs.length ≤ 401 ∧ Mem [rowT elemMx (.slice pm xs.length cm) xs, rowT elemMx (.slice pb bs.length cb) bs, gvT g A G, A, vtT dv dl X.1, lgT dl X.2, vtT dv2 dl2 Y.1, lgT dl2 Y.2, R] H w W') ?_ ?_
   ·refine wp_block (wp_seq (wp_seq ?_))
    rcases (show y.act = 0 ∨ y.act = 1 ∨ y.act = 2 ∨ y.act = 3 ∨ y.act = 4 ∨ (y.act ≠ 0 ∧ y.act ≠ 1 ∧ y.act ≠ 2 ∧ y.act ≠ 3 ∧ y.act ≠ 4) from by omega) with h0 | h0 | h0 | h0 | h0 | h0
    ·have g0 : (y.act == 0) = true := beq_iff_eq.2 h0
     replace h0 := Lib.hid h0
     refine wQ ?_
     refine wp_cond_true rfl (wp_skip (then_normal (wp_cond_true rfl ?_)))
     obtain ⟨G1, tm, htk', hT', htl⟩ := hA.out.tick
     have htk := Lib.hid htk'
     clear htk'
     have hT := Lib.hid hT'
     clear hT'
     refine wN [(0, 1), (1, 1), (2, 1), (3, 3), (4, 3), (5, 1)] (wT [0, 1, 2] ?_)
     refine wU2 3 [_, _, _, _, _, _, _] Tryz.call19 (gtick_e hA.out.ok hA.out.kept.ok hvl.out (by have := hA.out.tks; omega) htk.out) HM48 [3, 3, 3] fun u51 W50 hm49 => ?_
     obtain ⟨rs, hm49a⟩ := Mem.gt hm49
     clear hm49
     obtain ⟨ts, pt, ct, rfl, htsm', htso', hm49q⟩ := Mem.tells hm49a
     clear hm49a
     have htsm := Lib.hid htsm'
     clear htsm'
     have htso := Lib.hid htso'
     clear htso'
     have hmsl : Hid (ts.length ≤ 9) := Lib.hid (by rw [len_of htsm.out]; exact htl)
     have HM52 := Lib.hid hm49q
     clear hm49q
     refine wpS_append (E := elemMx) (i := 4) (d := some 75) (L2 := [_, _, _, _, _, _, _, _, _, _]) rfl (by rfl) rfl HM52.out 5 rfl rfl (HM52.out.src 0 rfl rowT_reads) rfl (by have := hmsl.out; show (_ + _) * 552 ≤ 140737488355328; omega) rfl covS_nil rfl ?_
     rintro u55 W56 hm57 -
     have HM58 := Lib.hid hm57
     clear hm57
     simp only [Act.put, List.setIfInBounds_toArray, List.set_cons_succ, List.set_cons_zero]
     obtain ⟨um, vm, hup⟩ := row_form (Mem.src HM58.out 0 rfl rowT_reads)
     subst hup
     refine wT [5] ?_
     refine wpS_nil (block_normal (then_normal ?_))
     refine ⟨by kernel_rfl, ?_⟩
     exact ⟨Hs, X, Y, G1, _, (xs ++ ts), bs, um, pb, vm, cb, rfl, rfl, (by rw [map_app, htsm.out]; exact hT.out), (fun z hz => (List.mem_append.1 hz).elim (fun hz => own_la (hxo.out z hz)) (fun hz => htso.out z hz)), (fun z hz => own_la (hbo.out z hz)), (by rw [List.length_append]; have := hmsl.out; omega), (by omega), (Mem.only (M := [_, _, _, _, _, _, _, _, _]) HM58.out [0, 5, 1, 1, 1, 2, 2, 2, 2] rfl)⟩
    ·have g0 : (y.act == 0) = false := beq_eq_false_iff_ne.2 (by omega)
     have g1 : (y.act == 1) = true := beq_iff_eq.2 h0
     replace h0 := Lib.hid h0
     refine wQ ?_
     refine wp_cond_false rfl (wQ ?_)
     refine wp_cond_true rfl ?_
     obtain ⟨G1, tm, htk', hT', htl⟩ := hA.out.tick
     have htk := Lib.hid htk'
     clear htk'
     have hT := Lib.hid hT'
     clear hT'
     refine wN [(0, 1), (1, 1), (2, 1), (3, 3), (4, 3), (5, 1)] (wT [0, 1, 2] ?_)
     refine wU2 3 [_, _, _, _, _, _, _] Tryz.call19 (gtick_e hA.out.ok hA.out.kept.ok hvl.out (by have := hA.out.tks; omega) htk.out) HM48 [3, 3, 3] fun u61 W60 hm59 => ?_
     obtain ⟨rs, hm59a⟩ := Mem.gt hm59
     clear hm59
     obtain ⟨ts, pt, ct, rfl, htsm', htso', hm59q⟩ := Mem.tells hm59a
     clear hm59a
     have htsm := Lib.hid htsm'
     clear htsm'
     have htso := Lib.hid htso'
     clear htso'
     have hmsl : Hid (ts.length ≤ 9) := Lib.hid (by rw [len_of htsm.out]; exact htl)
     have HM62 := Lib.hid hm59q
     clear hm59q
     refine wpS_append (E := elemMx) (i := 4) (d := some 75) (L2 := [_, _, _, _, _, _, _, _, _, _]) rfl (by rfl) rfl HM62.out 5 rfl rfl (HM62.out.src 0 rfl rowT_reads) rfl (by have := hmsl.out; show (_ + _) * 552 ≤ 140737488355328; omega) rfl covS_nil rfl ?_
     rintro u65 W66 hm67 -
     have HM68 := Lib.hid hm67
     clear hm67
     simp only [Act.put, List.setIfInBounds_toArray, List.set_cons_succ, List.set_cons_zero]
     obtain ⟨um, vm, hup⟩ := row_form (Mem.src HM68.out 0 rfl rowT_reads)
     subst hup
     refine wT [5] ?_
     refine wpS_nil (block_normal (then_normal ?_))
     refine ⟨by kernel_rfl, ?_⟩
     exact ⟨Hs, X, Y, G1, _, (xs ++ ts), bs, um, pb, vm, cb, rfl, rfl, (by rw [map_app, htsm.out]; exact hT.out), (fun z hz => (List.mem_append.1 hz).elim (fun hz => own_la (hxo.out z hz)) (fun hz => htso.out z hz)), (fun z hz => own_la (hbo.out z hz)), (by rw [List.length_append]; have := hmsl.out; omega), (by omega), (Mem.only (M := [_, _, _, _, _, _, _, _, _]) HM68.out [0, 5, 1, 1, 1, 2, 2, 2, 2] rfl)⟩
    ·have g0 : (y.act == 0) = false := beq_eq_false_iff_ne.2 (by omega)
     have g1 : (y.act == 1) = false := beq_eq_false_iff_ne.2 (by omega)
     have g2 : (y.act == 2) = true := beq_iff_eq.2 h0
     replace h0 := Lib.hid h0
     refine wQ ?_
     refine wp_cond_false rfl (wQ ?_)
     refine wp_cond_false rfl (wp_seq (wQ ?_))
     refine wp_cond_true rfl (wp_seq (wQ ?_))
     refine wp_seq ?_
     rcases Nat.eq_zero_or_pos xs.length with hz0 | hz0
     ·have g1 : decide ((0 : Int) < (xs.length : Int)) = false := decide_eq_false (by omega)
      have g2 : decide (0 < xs.length) = false := decide_eq_false (by omega)
      clear hz0
      refine wQ ?_
      refine wp_cond_false rfl (wp_skip (block_normal (then_normal ?_)))
      refine ⟨by kernel_rfl, ?_⟩
      exact ⟨Hs, X, Y, G, A, xs, bs, pm, pb, cm, cb, rfl, rfl, hA.out.more, hxo.out, hbo.out, (by omega), (by omega), (Mem.only (M := [_, _, _, _, _, _, _, _, _]) HM48.out [1, 1, 1, 1, 1, 1, 1, 1, 1] rfl)⟩
     ·have g1 : decide ((0 : Int) < (xs.length : Int)) = true := decide_eq_true (by omega)
      have g2 : decide (0 < xs.length) = true := decide_eq_true hz0
      refine wQ ?_
      refine wp_cond_true rfl (wp_seq ?_)
      obtain ⟨q, hlm', hql⟩ := mod_lenA y.at_ hz0 (by omega)
      obtain ⟨x, hx'⟩ : ∃ z, xs[q]? = some z := ⟨_, List.getElem?_eq_getElem hql⟩
      have hxm := List.mem_of_getElem? hx'
      have hlm := Lib.hid hlm'
      clear hlm'
      have hx := Lib.hid hx'
      clear hx'
      refine wN [(0, 1), (1, 1), (2, 1), (3, 1), (4, 1), (5, 1), (6, 1), (7, 1), (8, 1), (9, 1), (10, 3), (11, 3)] (wT [0, 1] ?_)
      refine wM 2 (.int .i64 y.at_) (HM48.out.part1 0 rfl cxC_at) Tryz.underlying3 ?_
      refine wT [3, 4, 5, 6] ?_
      refine wT [7] ?_
      rw [hlm.out]
      refine wI elemMx 8 (HM48.out.row 1 rfl vRow) (hx.out) fun eb69 eo70 hc71 => ?_
      refine wL 9 (msC (x.m) (.slice x.vp x.vn x.vc) (.slice x.rp x.rn x.rc) (.slice x.cp x.cn x.cc)) hc71 Tryz.underlying52 ?_
      refine wpS_alloc (i := 10) (dd := 14) (z := msV noMs (.slice none 0 0) (.slice none 0 0) (.slice none 0 0)) (cs := (msC (noMs) (.slice none 0 0) (.slice none 0 0) (.slice none 0 0)).toArray) rfl (by rfl) rfl (by kernel_rfl) rfl HM48.out covS_nil rfl ?_
      rintro b74 W73 hm72 -
      have HM75 := Lib.hid hm72
      clear hm72
      simp only [Act.put, List.setIfInBounds_toArray, List.set_cons_succ, List.set_cons_zero]
      refine wXkh (hone := (msC_one _ _ _ _ _ _ _ _ _)) 11 [_, _, _, _, _, _, _, _, _, _] (msC (x.m) (.slice x.vp x.vn x.vc) (.slice x.rp x.rn x.rc) (.slice x.cp x.cn x.cc)) HM75 0 fun W77 HM78 => ?_
      refine wZ (wp_seq ?_)
      by_cases hk5' : x.m.kind = 5
      ·have g3 : (x.m.kind == 5) = true := beq_iff_eq.2 hk5'
       obtain ⟨Z, hmg', hT'⟩ := hA.out.merge (by omega) (List.mem_map.2 ⟨x, hxm, rfl⟩) hk5'
       have hmg := Lib.hid hmg'
       clear hmg'
       have hT := Lib.hid hT'
       clear hT'
       have hk5 := Lib.hid hk5'
       clear hk5'
       refine wN [(0, 1), (1, 1), (2, 1)] (wT [0] ?_)
       refine wM 1 (.int .i64 x.m.kind) (HM78.out.part1 0 rfl msC_kind) Tryz.underlying3 ?_
       refine wT [2] ?_
       refine wZ (wp_cond_true rfl (wp_seq (wp_seq (wN [(0, 1), (1, 1), (2, 1), (3, 1), (4, 1), (5, 3), (6, 1)] (wT [0, 1] ?_)))))
       refine wM 2 (.string x.m.key) (HM78.out.part1 0 rfl msC_key) Tryz.underlying9 ?_
       refine wT [3] ?_
       refine wL 4 (bgC x.m.b.k (.slice x.vp x.vn x.vc)) (HM78.out.part 0 rfl (msC_bag)) Tryz.underlying41 ?_
       refine wD3h 5 [_, _, _, _, _, _, _, _] [_, _, _, _, _, _, _, _, _, _, _] Tryz.call32 (vmerge_e hA.out.tm.kept (hxo.out x hxm).rd (Nat.le_trans (hA.out.mail _ (List.mem_map.2 ⟨x, hxm, rfl⟩)).1 (by decide)) hmg.out) HM78 [8, 8, 5] fun W80 HM81 => ?_
       refine wT [6] ?_
       refine wZ (wp_cond_false rfl (wp_skip (then_normal (wp_seq (wN [(0, 1), (1, 3), (2, 1), (3, 3), (4, 1), (5, 3)] (wT [0] ?_))))))
       refine wYkh (hcs := (msC_setKind _)) 1 (.int .i64 (6)) [_, _, _, _, _, _, _, _, _, _] (msC (⟨6, x.m.frm, x.m.dst, x.m.seq, x.m.re, x.m.abt, x.m.part, x.m.epoch, x.m.key, x.m.b, x.m.r⟩) (.slice x.vp x.vn x.vc) (.slice x.rp x.rn x.rc) (.slice x.cp x.cn x.cc)) HM81 3 fun W83 HM84 => ?_
       refine wT [2] ?_
       refine wYkh (hcs := (msC_setFrm _)) 3 (.int .i64 (1)) [_, _, _, _, _, _, _, _, _, _] (msC (⟨6, 1, x.m.dst, x.m.seq, x.m.re, x.m.abt, x.m.part, x.m.epoch, x.m.key, x.m.b, x.m.r⟩) (.slice x.vp x.vn x.vc) (.slice x.rp x.rn x.rc) (.slice x.cp x.cn x.cc)) HM84 0 fun W86 HM87 => ?_
       refine wT [4] ?_
       refine wYkh (hcs := (msC_setDst _)) 5 (.int .i64 (0)) [_, _, _, _, _, _, _, _, _, _] (msC (⟨6, 1, 0, x.m.seq, x.m.re, x.m.abt, x.m.part, x.m.epoch, x.m.key, x.m.b, x.m.r⟩) (.slice x.vp x.vn x.vc) (.slice x.rp x.rn x.rc) (.slice x.cp x.cn x.cc)) HM87 0 fun W89 HM90 => ?_
       refine wZ (wN [(0, 1), (1, 1), (2, 3), (3, 3), (4, 1)] (wT [0] ?_))
       refine wL 1 (msC (⟨6, 1, 0, x.m.seq, x.m.re, x.m.abt, x.m.part, x.m.epoch, x.m.key, x.m.b, x.m.r⟩) (.slice x.vp x.vn x.vc) (.slice x.rp x.rn x.rc) (.slice x.cp x.cn x.cc)) (HM90.out.part 0 rfl (msC_all)) Tryz.underlying52 ?_
       refine wpS_build1 elemMx (i := 2) (dd := 107) (y := ansX x) rfl (by rfl) rfl rfl rfl (by decide) HM90.out covS_nil rfl ?_
       rintro b93 W94 hm95 -
       have HM96 := Lib.hid hm95
       clear hm95
       simp only [Act.put, List.setIfInBounds_toArray, List.set_cons_succ, List.set_cons_zero]
       refine wpS_append (E := elemMx) (i := 3) (d := some 108) (L2 := [_, _, _, _, _, _, _, _, _, _, _]) rfl (by rfl) rfl HM96.out 7 rfl rfl (HM96.out.src 0 rfl rowT_reads) rfl (by show (_ + 1) * 552 ≤ 140737488355328; omega) rfl covS_nil rfl ?_
       rintro u99 W100 hm101 -
       have HM102 := Lib.hid hm101
       clear hm101
       simp only [Act.put, List.setIfInBounds_toArray, List.set_cons_succ, List.set_cons_zero]
       obtain ⟨um, vm, hup⟩ := row_form (Mem.src HM102.out 0 rfl rowT_reads)
       subst hup
       refine wT [4] ?_
       refine wpS_nil (block_normal (then_normal ?_))
       refine ⟨by kernel_rfl, ?_⟩
       exact ⟨Hs, X, Z, G, A, xs, (bs ++ [ansX x]), pm, um, cm, vm, rfl, rfl, (by rw [map_snoc]; exact hT.out), hxo.out, (fun z hz => (List.mem_append.1 hz).elim (hbo.out z) (fun hz => by rw [List.mem_singleton.1 hz]; exact own_ans (hxo.out x hxm))), (by omega), (by rw [List.length_append, List.length_singleton]; omega), (Mem.only (M := [_, _, _, _, _, _, _, _, _]) HM102.out [7, 0, 6, 4, 5, 5, 2, 2, 3] rfl)⟩
      ·have g3 : (x.m.kind == 5) = false := beq_eq_false_iff_ne.2 hk5'
       have hk5 := Lib.hid hk5'
       clear hk5'
       refine wN [(0, 1), (1, 1), (2, 1)] (wT [0] ?_)
       refine wM 1 (.int .i64 x.m.kind) (HM78.out.part1 0 rfl msC_kind) Tryz.underlying3 ?_
       refine wT [2] ?_
       refine wZ (wp_cond_false rfl (wN [(0, 1), (1, 1), (2, 1), (3, 1), (4, 1), (5, 1), (6, 3), (7, 3), (8, 1)] (wT [0, 1] ?_)))
       refine wM 2 (.int .i64 x.m.part) (HM78.out.part1 0 rfl msC_part) Tryz.underlying3 ?_
       refine wT [3] ?_
       refine wM 4 (.int .i64 x.m.epoch) (HM78.out.part1 0 rfl msC_epoch) Tryz.underlying3 ?_
       refine wR 5 (v := msV (endX x) (.slice none 0 0) (.slice none 0 0) (.slice none 0 0)) (by kernel_rfl) ?_
       refine wpS_build1 elemMx (i := 6) (dd := 115) (y := mxOf (endX x) none 0) rfl (by rfl) rfl rfl rfl (by decide) HM78.out covS_nil rfl ?_
       rintro b105 W106 hm107 -
       have HM108 := Lib.hid hm107
       clear hm107
       simp only [Act.put, List.setIfInBounds_toArray, List.set_cons_succ, List.set_cons_zero]
       refine wpS_append (E := elemMx) (i := 7) (d := some 116) (L2 := [_, _, _, _, _, _, _, _, _, _, _]) rfl (by rfl) rfl HM108.out 4 rfl rfl (HM108.out.src 0 rfl rowT_reads) rfl (by show (_ + 1) * 552 ≤ 140737488355328; omega) rfl covS_nil rfl ?_
       rintro u111 W112 hm113 -
       have HM114 := Lib.hid hm113
       clear hm113
       simp only [Act.put, List.setIfInBounds_toArray, List.set_cons_succ, List.set_cons_zero]
       obtain ⟨um, vm, hup⟩ := row_form (Mem.src HM114.out 0 rfl rowT_reads)
       subst hup
       refine wT [8] ?_
       refine wpS_nil (block_normal (then_normal ?_))
       refine ⟨by kernel_rfl, ?_⟩
       exact ⟨Hs, X, Y, G, A, xs, (bs ++ [mxOf (endX x) none 0]), pm, um, cm, vm, rfl, rfl, (by rw [map_snoc]; exact hA.out.answer rfl (Nat.zero_le _)), hxo.out, (fun z hz => (List.mem_append.1 hz).elim (hbo.out z) (fun hz => by rw [List.mem_singleton.1 hz]; exact own_end)), (by omega), (by rw [List.length_append, List.length_singleton]; omega), (Mem.only (M := [_, _, _, _, _, _, _, _, _]) HM114.out [4, 0, 3, 3, 3, 3, 3, 3, 3] rfl)⟩
    ·have g0 : (y.act == 0) = false := beq_eq_false_iff_ne.2 (by omega)
     have g1 : (y.act == 1) = false := beq_eq_false_iff_ne.2 (by omega)
     have g2 : (y.act == 2) = false := beq_eq_false_iff_ne.2 (by omega)
     have g3 : (y.act == 3) = true := beq_iff_eq.2 h0
     replace h0 := Lib.hid h0
     refine wQ ?_
     refine wp_cond_false rfl (wQ ?_)
     refine wp_cond_false rfl (wp_seq (wQ ?_))
     refine wp_cond_false rfl (wp_seq (wp_seq (wQ ?_)))
     refine wp_cond_true rfl (wp_skip (then_normal (wp_cond_true rfl (wp_seq (wQ ?_)))))
     refine wp_seq ?_
     rcases Nat.eq_zero_or_pos bs.length with hz0 | hz0
     ·have g1 : decide ((0 : Int) < (bs.length : Int)) = false := decide_eq_false (by omega)
      have g2 : decide (0 < bs.length) = false := decide_eq_false (by omega)
      clear hz0
      refine wQ ?_
      refine wp_cond_false rfl (wp_skip (block_normal (then_normal ?_)))
      refine ⟨by kernel_rfl, ?_⟩
      exact ⟨Hs, X, Y, G, A, xs, bs, pm, pb, cm, cb, rfl, rfl, hA.out.more, hxo.out, hbo.out, (by omega), (by omega), (Mem.only (M := [_, _, _, _, _, _, _, _, _]) HM48.out [1, 1, 1, 1, 1, 1, 1, 1, 1] rfl)⟩
     ·have g1 : decide ((0 : Int) < (bs.length : Int)) = true := decide_eq_true (by omega)
      have g2 : decide (0 < bs.length) = true := decide_eq_true hz0
      refine wQ ?_
      refine wp_cond_true rfl (wp_seq ?_)
      obtain ⟨q, hlm', hql⟩ := mod_lenA y.at_ hz0 (by omega)
      obtain ⟨x, hx'⟩ : ∃ z, bs[q]? = some z := ⟨_, List.getElem?_eq_getElem hql⟩
      have hxm := List.mem_of_getElem? hx'
      have hlm := Lib.hid hlm'
      clear hlm'
      have hx := Lib.hid hx'
      clear hx'
      have hxo2 := hbo
      refine wN [(0, 1), (1, 1), (2, 1), (3, 1), (4, 1), (5, 1), (6, 1), (7, 1), (8, 1), (9, 1), (10, 3), (11, 3)] (wT [0, 1] ?_)
      refine wM 2 (.int .i64 y.at_) (HM48.out.part1 0 rfl cxC_at) Tryz.underlying3 ?_
      refine wT [3, 4, 5, 6] ?_
      refine wT [7] ?_
      rw [hlm.out]
      refine wI elemMx 8 (HM48.out.row 2 rfl vRow) (hx.out) fun eb115 eo116 hc117 => ?_
      refine wL 9 (msC (x.m) (.slice x.vp x.vn x.vc) (.slice x.rp x.rn x.rc) (.slice x.cp x.cn x.cc)) hc117 Tryz.underlying52 ?_
      refine wpS_alloc (i := 10) (dd := 16) (z := msV noMs (.slice none 0 0) (.slice none 0 0) (.slice none 0 0)) (cs := (msC (noMs) (.slice none 0 0) (.slice none 0 0) (.slice none 0 0)).toArray) rfl (by rfl) rfl (by kernel_rfl) rfl HM48.out covS_nil rfl ?_
      rintro b120 W119 hm118 -
      have HM121 := Lib.hid hm118
      clear hm118
      simp only [Act.put, List.setIfInBounds_toArray, List.set_cons_succ, List.set_cons_zero]
      refine wXkh (hone := (msC_one _ _ _ _ _ _ _ _ _)) 11 [_, _, _, _, _, _, _, _, _, _] (msC (x.m) (.slice x.vp x.vn x.vc) (.slice x.rp x.rn x.rc) (.slice x.cp x.cn x.cc)) HM121 0 fun W123 HM124 => ?_
      refine wZ (wp_seq ?_)
      by_cases hk6' : x.m.kind = 6
      ·have g3 : (x.m.kind == 6) = true := beq_iff_eq.2 hk6'
       have hk6 := Lib.hid hk6'
       clear hk6'
       refine wN [(0, 1), (1, 1), (2, 1)] (wT [0] ?_)
       refine wM 1 (.int .i64 x.m.kind) (HM124.out.part1 0 rfl msC_kind) Tryz.underlying3 ?_
       refine wT [2] ?_
       refine wZ (wp_cond_true rfl (wN [(0, 1), (1, 1), (2, 3)] (wT [0] ?_)))
       refine wL 1 (msC (x.m) (.slice x.vp x.vn x.vc) (.slice x.rp x.rn x.rc) (.slice x.cp x.cn x.cc)) (HM124.out.part 0 rfl (msC_all)) Tryz.underlying52 ?_
       refine wD2h 2 [_, _, _, _, _, _, _, _, _] [_, _, _, _, _, _, _, _, _, _, _] Tryz.call23 (ggot_e (m := x.m) hA.out.ok rfl rfl (hxo2.out x hxm).rd (Nat.le_trans (hA.out.back _ (List.mem_map.2 ⟨x, hxm, rfl⟩)).1 (by decide))) HM124 [4, 4] fun W126 HM127 => ?_
       refine wpS_nil (block_normal (then_normal ?_))
       refine ⟨by kernel_rfl, ?_⟩
       exact ⟨Hs, X, Y, (gotG G x.m), A, xs, bs, pm, pb, cm, cb, rfl, rfl, (hA.out.got (List.mem_map.2 ⟨x, hxm, rfl⟩) hk6.out), hxo.out, hbo.out, (by omega), (by omega), (Mem.only (M := [_, _, _, _, _, _, _, _, _]) HM127.out [4, 4, 0, 0, 2, 2, 2, 2, 2] rfl)⟩
      ·have g3 : (x.m.kind == 6) = false := beq_eq_false_iff_ne.2 hk6'
       have hk6 := Lib.hid hk6'
       clear hk6'
       refine wN [(0, 1), (1, 1), (2, 1)] (wT [0] ?_)
       refine wM 1 (.int .i64 x.m.kind) (HM124.out.part1 0 rfl msC_kind) Tryz.underlying3 ?_
       refine wT [2] ?_
       refine wZ (wp_cond_false rfl (wp_seq ?_))
       obtain ⟨e, hen'⟩ := bool_letter (endedG G x.m X.1)
       have hen := Lib.hid hen'
       clear hen'
       cases e
       ·skip
        refine wN [(0, 1), (1, 1), (2, 1), (3, 3)] (wT [0] ?_)
        refine wL 1 (msC (x.m) (.slice x.vp x.vn x.vc) (.slice x.rp x.rn x.rc) (.slice x.cp x.cn x.cc)) (HM124.out.part 0 rfl (msC_all)) Tryz.underlying52 ?_
        refine wT [2] ?_
        refine wD3h 3 [_, _, _, _, _, _, _, _, _] [_, _, _, _, _, _, _, _, _, _, _] Tryz.call25 (gended_e (m := x.m) hA.out.ok hA.out.kept.ok hvl.out hen.out) HM124 [4, 5] fun W129 HM130 => ?_
        refine wZ (wp_cond_false rfl (wp_skip (block_normal (then_normal ?_))))
        refine ⟨by kernel_rfl, ?_⟩
        exact ⟨Hs, X, Y, G, A, xs, bs, pm, pb, cm, cb, rfl, rfl, hA.out.more, hxo.out, hbo.out, (by omega), (by omega), (Mem.only (M := [_, _, _, _, _, _, _, _, _]) HM130.out [4, 4, 0, 3, 0, 2, 2, 2, 2] rfl)⟩
       ·obtain ⟨ks, hks'⟩ : ∃ z, keysV X.1 (P : Int) = z := ⟨_, rfl⟩
        have hkl : ks.length ≤ 100 := by rw [← hks', keysV_len]; exact Nat.le_trans List.countP_le_length (Nat.le_trans hA.out.bl (by omega))
        have hks := Lib.hid hks'
        clear hks'
        refine wN [(0, 1), (1, 1), (2, 1), (3, 3)] (wT [0] ?_)
        refine wL 1 (msC (x.m) (.slice x.vp x.vn x.vc) (.slice x.rp x.rn x.rc) (.slice x.cp x.cn x.cc)) (HM124.out.part 0 rfl (msC_all)) Tryz.underlying52 ?_
        refine wT [2] ?_
        refine wD3h 3 [_, _, _, _, _, _, _, _, _] [_, _, _, _, _, _, _, _, _, _, _] Tryz.call25 (gended_e (m := x.m) hA.out.ok hA.out.kept.ok hvl.out hen.out) HM124 [4, 5] fun W132 HM133 => ?_
        refine wZ (wp_cond_true rfl (wp_seq (wN [(0, 1), (1, 1), (2, 3), (3, 1), (4, 1)] (wT [0, 1] ?_))))
        refine wU2 2 [_, _, _, _, _, _, _, _, _, _] Tryz.call33 (vkeys_e hA.out.kept.ok hvl.out hks.out) HM133 [1] fun u136 W135 hm134 => ?_
        obtain ⟨pk, ck, rfl, hm134q⟩ := Mem.texts rfl hm134
        clear hm134
        have HM137 := Lib.hid hm134q
        clear hm134q
        refine wT [3, 4] ?_
        refine wZ (wp_block ?_)
        refine wp_loop_F [4, 18, 148, 149, 150, 151, 152, 153, 154, 155, 156, 157, 158, 159, 160] (fun n us W' => ∃ j : Nat, n = ks.length - j ∧ us 148 = .int .i64 (j : Int) ∧ j ≤ ks.length ∧ Mem [rowT elemS (.slice pk ks.length ck) ks, rowT elemMx (.slice pm xs.length cm) xs, rowT elemMx (.slice pb bs.length cb) bs, gvT g A G, A, vtT dv dl X.1, lgT dl X.2, vtT dv2 dl2 Y.1, lgT dl2 Y.2, R] H w W') (n0 := ks.length) ?_ ?_
        ·exact ⟨0, rfl, rfl, Nat.zero_le _, (Mem.only (M := [_, _, _, _, _, _, _, _, _, _]) HM137.out [0, 4, 4, 1, 3, 0, 2, 2, 2, 2] rfl)⟩
        rintro n us W' ⟨j, rfl, e148, hj, hm2⟩
        simp only [putAll, List.map_cons, List.map_nil, Act.put, List.setIfInBounds_toArray, List.set_cons_succ, List.set_cons_zero]
        rw [e148]
        clear e148
        have HM138 := Lib.hid hm2
        clear hm2
        refine wp_seq (wQ ?_)
        refine wp_seq ?_
        refine wp_cond_split rfl (fun h139 => ?_) (fun h139 => ?_)
        ·have hj1 : j + 1 ≤ ks.length := by have : (j : Int) < ((ks.length : Nat) : Int) := (by simpa using h139); omega
         clear h139
         obtain ⟨q2, hq'⟩ : ∃ y, ks[j]? = some y := ⟨_, List.getElem?_eq_getElem (hj1)⟩
         have hq := Lib.hid hq'
         clear hq'
         refine wp_skip (then_normal (wp_seq (wp_block (wp_seq (wN [(0, 1), (1, 1), (2, 1)] ?_)))))
         refine wI elemS 0 (HM138.out.row 0 rfl vRow) (hq.out) fun eb140 eo141 hc142 => ?_
         refine wM 1 (.string q2) (hc142 0 _ rfl) Tryz.underlying9 ?_
         refine wT [2] ?_
         refine wZ (wp_seq ?_)
         have hbw : Hid (belowB (bagV X.1 q2) (bagV Y.1 q2) = true) := Lib.hid (hA.out.ended hen.out (by rw [hks.out]; exact List.mem_of_getElem? hq.out))
         refine wN [(0, 1), (1, 1), (2, 3), (3, 1), (4, 1), (5, 3), (6, 3), (7, 1)] (wT [0, 1] ?_)
         refine wU2 2 [_, _, _, _, _, _, _, _, _] Tryz.call35 (vbag_e hA.out.kept.ok rfl) HM138 [5] fun u145 W144 hm143 => ?_
         obtain ⟨pr1, cr1, rfl, hm143q⟩ := Mem.bag rfl hm143
         clear hm143
         have HM146 := Lib.hid hm143q
         clear hm143q
         refine wT [3, 4] ?_
         refine wU2 5 [_, _, _, _, _, _, _, _, _, _] Tryz.call35 (vbag_e hA.out.tm.kept.ok rfl) HM146 [8] fun u149 W148 hm147 => ?_
         obtain ⟨pr2, cr2, rfl, hm147q⟩ := Mem.bag rfl hm147
         clear hm147
         have HM150 := Lib.hid hm147q
         clear hm147q
         refine wD2 6 [_, _, _, _, _, _, _, _, _, _] [_, _, _, _, _, _, _, _, _, _, _, _] Tryz.call34 (Does.ofList (bbelow_d (listT [_, _]) _ (bagV X.1 q2) (vL 0 rfl rowT_reads) (Nat.le_trans (bagV_len hA.out.kept.ok q2) (by decide)) _ (bagV Y.1 q2) (vL 1 rfl rowT_reads) (Nat.le_trans (bagV_len hA.out.tm.kept.ok q2) (by decide)))) HM150 [2, 0] fun W152 hm151 => ?_
         rw [hbw.out]
         have HM153 := Lib.hid hm151
         clear hm151
         refine wT [7] ?_
         refine wZ (wp_cond_false rfl (wp_skip (block_normal (then_normal (wQ ?_)))))
         refine ⟨by kernel_rfl, ?_⟩
         exact ⟨ks.length - (j + 1), by omega, j + 1, rfl, rfl, hj1, (Mem.only (M := [_, _, _, _, _, _, _, _, _, _]) HM153.out [4, 4, 4, 4, 4, 3, 3, 2, 2, 2] rfl)⟩
        ·have hgj : ks.length ≤ j := by have : ¬ (j : Int) < (ks.length : Int) := (by simpa using h139); omega
         clear h139
         refine wp_exit ?_
         refine then_exit (then_exit (block_exit ?_))
         refine block_normal (then_normal ?_)
         refine ⟨by kernel_rfl, ?_⟩
         exact ⟨Hs, X, Y, G, A, xs, bs, pm, pb, cm, cb, rfl, rfl, hA.out.more, hxo.out, hbo.out, (by omega), (by omega), (Mem.only (M := [_, _, _, _, _, _, _, _, _]) HM138.out [1, 1, 1, 1, 1, 1, 1, 1, 1] rfl)⟩
    ·have g0 : (y.act == 0) = false := beq_eq_false_iff_ne.2 (by omega)
     have g1 : (y.act == 1) = false := beq_eq_false_iff_ne.2 (by omega)
     have g2 : (y.act == 2) = false := beq_eq_false_iff_ne.2 (by omega)
     have g3 : (y.act == 3) = false := beq_eq_false_iff_ne.2 (by omega)
     have g4 : (y.act == 4) = true := beq_iff_eq.2 h0
     replace h0 := Lib.hid h0
     refine wQ ?_
     refine wp_cond_false rfl (wQ ?_)
     refine wp_cond_false rfl (wp_seq (wQ ?_))
     refine wp_cond_false rfl (wp_seq (wp_seq (wQ ?_)))
     refine wp_cond_false rfl (wQ ?_)
     refine wp_cond_true rfl (wp_seq (wQ ?_))
     refine wp_seq ?_
     rcases Nat.eq_zero_or_pos bs.length with hz0 | hz0
     ·have g1 : decide ((0 : Int) < (bs.length : Int)) = false := decide_eq_false (by omega)
      have g2 : decide (0 < bs.length) = false := decide_eq_false (by omega)
      clear hz0
      refine wQ ?_
      refine wp_cond_false rfl (wp_skip (block_normal (then_normal ?_)))
      refine ⟨by kernel_rfl, ?_⟩
      exact ⟨Hs, X, Y, G, A, xs, bs, pm, pb, cm, cb, rfl, rfl, hA.out.more, hxo.out, hbo.out, (by omega), (by omega), (Mem.only (M := [_, _, _, _, _, _, _, _, _]) HM48.out [1, 1, 1, 1, 1, 1, 1, 1, 1] rfl)⟩
     ·have g1 : decide ((0 : Int) < (bs.length : Int)) = true := decide_eq_true (by omega)
      have g2 : decide (0 < bs.length) = true := decide_eq_true hz0
      refine wQ ?_
      refine wp_cond_true rfl (wp_seq ?_)
      obtain ⟨q, hlm', hql⟩ := mod_lenA y.at_ hz0 (by omega)
      obtain ⟨x, hx'⟩ : ∃ z, bs[q]? = some z := ⟨_, List.getElem?_eq_getElem hql⟩
      have hxm := List.mem_of_getElem? hx'
      have hlm := Lib.hid hlm'
      clear hlm'
      have hx := Lib.hid hx'
      clear hx'
      have hxo2 := hbo
      refine wN [(0, 1), (1, 1), (2, 1), (3, 1), (4, 1), (5, 1), (6, 1), (7, 1), (8, 1), (9, 1), (10, 3), (11, 3)] (wT [0, 1] ?_)
      refine wM 2 (.int .i64 y.at_) (HM48.out.part1 0 rfl cxC_at) Tryz.underlying3 ?_
      refine wT [3, 4, 5, 6] ?_
      refine wT [7] ?_
      rw [hlm.out]
      refine wI elemMx 8 (HM48.out.row 2 rfl vRow) (hx.out) fun eb154 eo155 hc156 => ?_
      refine wL 9 (msC (x.m) (.slice x.vp x.vn x.vc) (.slice x.rp x.rn x.rc) (.slice x.cp x.cn x.cc)) hc156 Tryz.underlying52 ?_
      refine wpS_alloc (i := 10) (dd := 16) (z := msV noMs (.slice none 0 0) (.slice none 0 0) (.slice none 0 0)) (cs := (msC (noMs) (.slice none 0 0) (.slice none 0 0) (.slice none 0 0)).toArray) rfl (by rfl) rfl (by kernel_rfl) rfl HM48.out covS_nil rfl ?_
      rintro b159 W158 hm157 -
      have HM160 := Lib.hid hm157
      clear hm157
      simp only [Act.put, List.setIfInBounds_toArray, List.set_cons_succ, List.set_cons_zero]
      refine wXkh (hone := (msC_one _ _ _ _ _ _ _ _ _)) 11 [_, _, _, _, _, _, _, _, _, _] (msC (x.m) (.slice x.vp x.vn x.vc) (.slice x.rp x.rn x.rc) (.slice x.cp x.cn x.cc)) HM160 0 fun W162 HM163 => ?_
      refine wZ (wp_seq ?_)
      by_cases hk6' : x.m.kind = 6
      ·have g3 : (x.m.kind == 6) = true := beq_iff_eq.2 hk6'
       have hk6 := Lib.hid hk6'
       clear hk6'
       refine wN [(0, 1), (1, 1), (2, 1)] (wT [0] ?_)
       refine wM 1 (.int .i64 x.m.kind) (HM163.out.part1 0 rfl msC_kind) Tryz.underlying3 ?_
       refine wT [2] ?_
       refine wZ (wp_cond_true rfl (wN [(0, 1), (1, 1), (2, 3)] (wT [0] ?_)))
       refine wL 1 (msC (x.m) (.slice x.vp x.vn x.vc) (.slice x.rp x.rn x.rc) (.slice x.cp x.cn x.cc)) (HM163.out.part 0 rfl (msC_all)) Tryz.underlying52 ?_
       refine wD2h 2 [_, _, _, _, _, _, _, _, _] [_, _, _, _, _, _, _, _, _, _, _] Tryz.call23 (ggot_e (m := x.m) hA.out.ok rfl rfl (hxo2.out x hxm).rd (Nat.le_trans (hA.out.back _ (List.mem_map.2 ⟨x, hxm, rfl⟩)).1 (by decide))) HM163 [4, 4] fun W165 HM166 => ?_
       refine wpS_nil (block_normal (then_normal ?_))
       refine ⟨by kernel_rfl, ?_⟩
       exact ⟨Hs, X, Y, (gotG G x.m), A, xs, bs, pm, pb, cm, cb, rfl, rfl, (hA.out.got (List.mem_map.2 ⟨x, hxm, rfl⟩) hk6.out), hxo.out, hbo.out, (by omega), (by omega), (Mem.only (M := [_, _, _, _, _, _, _, _, _]) HM166.out [4, 4, 0, 0, 2, 2, 2, 2, 2] rfl)⟩
      ·have g3 : (x.m.kind == 6) = false := beq_eq_false_iff_ne.2 hk6'
       have hk6 := Lib.hid hk6'
       clear hk6'
       refine wN [(0, 1), (1, 1), (2, 1)] (wT [0] ?_)
       refine wM 1 (.int .i64 x.m.kind) (HM163.out.part1 0 rfl msC_kind) Tryz.underlying3 ?_
       refine wT [2] ?_
       refine wZ (wp_cond_false rfl (wp_seq ?_))
       obtain ⟨e, hen'⟩ := bool_letter (endedG G x.m X.1)
       have hen := Lib.hid hen'
       clear hen'
       cases e
       ·skip
        refine wN [(0, 1), (1, 1), (2, 1), (3, 3)] (wT [0] ?_)
        refine wL 1 (msC (x.m) (.slice x.vp x.vn x.vc) (.slice x.rp x.rn x.rc) (.slice x.cp x.cn x.cc)) (HM163.out.part 0 rfl (msC_all)) Tryz.underlying52 ?_
        refine wT [2] ?_
        refine wD3h 3 [_, _, _, _, _, _, _, _, _] [_, _, _, _, _, _, _, _, _, _, _] Tryz.call25 (gended_e (m := x.m) hA.out.ok hA.out.kept.ok hvl.out hen.out) HM163 [4, 5] fun W168 HM169 => ?_
        refine wZ (wp_cond_false rfl (wp_skip (block_normal (then_normal ?_))))
        refine ⟨by kernel_rfl, ?_⟩
        exact ⟨Hs, X, Y, G, A, xs, bs, pm, pb, cm, cb, rfl, rfl, hA.out.more, hxo.out, hbo.out, (by omega), (by omega), (Mem.only (M := [_, _, _, _, _, _, _, _, _]) HM169.out [4, 4, 0, 3, 0, 2, 2, 2, 2] rfl)⟩
       ·obtain ⟨ks, hks'⟩ : ∃ z, keysV X.1 (P : Int) = z := ⟨_, rfl⟩
        have hkl : ks.length ≤ 100 := by rw [← hks', keysV_len]; exact Nat.le_trans List.countP_le_length (Nat.le_trans hA.out.bl (by omega))
        have hks := Lib.hid hks'
        clear hks'
        refine wN [(0, 1), (1, 1), (2, 1), (3, 3)] (wT [0] ?_)
        refine wL 1 (msC (x.m) (.slice x.vp x.vn x.vc) (.slice x.rp x.rn x.rc) (.slice x.cp x.cn x.cc)) (HM163.out.part 0 rfl (msC_all)) Tryz.underlying52 ?_
        refine wT [2] ?_
        refine wD3h 3 [_, _, _, _, _, _, _, _, _] [_, _, _, _, _, _, _, _, _, _, _] Tryz.call25 (gended_e (m := x.m) hA.out.ok hA.out.kept.ok hvl.out hen.out) HM163 [4, 5] fun W171 HM172 => ?_
        refine wZ (wp_cond_true rfl (wp_seq (wN [(0, 1), (1, 1), (2, 3), (3, 1), (4, 1)] (wT [0, 1] ?_))))
        refine wU2 2 [_, _, _, _, _, _, _, _, _, _] Tryz.call33 (vkeys_e hA.out.kept.ok hvl.out hks.out) HM172 [1] fun u175 W174 hm173 => ?_
        obtain ⟨pk, ck, rfl, hm173q⟩ := Mem.texts rfl hm173
        clear hm173
        have HM176 := Lib.hid hm173q
        clear hm173q
        refine wT [3, 4] ?_
        refine wZ (wp_block ?_)
        refine wp_loop_F [4, 18, 148, 149, 150, 151, 152, 153, 154, 155, 156, 157, 158, 159, 160] (fun n us W' => ∃ j : Nat, n = ks.length - j ∧ us 148 = .int .i64 (j : Int) ∧ j ≤ ks.length ∧ Mem [rowT elemS (.slice pk ks.length ck) ks, rowT elemMx (.slice pm xs.length cm) xs, rowT elemMx (.slice pb bs.length cb) bs, gvT g A G, A, vtT dv dl X.1, lgT dl X.2, vtT dv2 dl2 Y.1, lgT dl2 Y.2, R] H w W') (n0 := ks.length) ?_ ?_
        ·exact ⟨0, rfl, rfl, Nat.zero_le _, (Mem.only (M := [_, _, _, _, _, _, _, _, _, _]) HM176.out [0, 4, 4, 1, 3, 0, 2, 2, 2, 2] rfl)⟩
        rintro n us W' ⟨j, rfl, e148, hj, hm2⟩
        simp only [putAll, List.map_cons, List.map_nil, Act.put, List.setIfInBounds_toArray, List.set_cons_succ, List.set_cons_zero]
        rw [e148]
        clear e148
        have HM177 := Lib.hid hm2
        clear hm2
        refine wp_seq (wQ ?_)
        refine wp_seq ?_
        refine wp_cond_split rfl (fun h178 => ?_) (fun h178 => ?_)
        ·have hj1 : j + 1 ≤ ks.length := by have : (j : Int) < ((ks.length : Nat) : Int) := (by simpa using h178); omega
         clear h178
         obtain ⟨q2, hq'⟩ : ∃ y, ks[j]? = some y := ⟨_, List.getElem?_eq_getElem (hj1)⟩
         have hq := Lib.hid hq'
         clear hq'
         refine wp_skip (then_normal (wp_seq (wp_block (wp_seq (wN [(0, 1), (1, 1), (2, 1)] ?_)))))
         refine wI elemS 0 (HM177.out.row 0 rfl vRow) (hq.out) fun eb179 eo180 hc181 => ?_
         refine wM 1 (.string q2) (hc181 0 _ rfl) Tryz.underlying9 ?_
         refine wT [2] ?_
         refine wZ (wp_seq ?_)
         have hbw : Hid (belowB (bagV X.1 q2) (bagV Y.1 q2) = true) := Lib.hid (hA.out.ended hen.out (by rw [hks.out]; exact List.mem_of_getElem? hq.out))
         refine wN [(0, 1), (1, 1), (2, 3), (3, 1), (4, 1), (5, 3), (6, 3), (7, 1)] (wT [0, 1] ?_)
         refine wU2 2 [_, _, _, _, _, _, _, _, _] Tryz.call35 (vbag_e hA.out.kept.ok rfl) HM177 [5] fun u184 W183 hm182 => ?_
         obtain ⟨pr1, cr1, rfl, hm182q⟩ := Mem.bag rfl hm182
         clear hm182
         have HM185 := Lib.hid hm182q
         clear hm182q
         refine wT [3, 4] ?_
         refine wU2 5 [_, _, _, _, _, _, _, _, _, _] Tryz.call35 (vbag_e hA.out.tm.kept.ok rfl) HM185 [8] fun u188 W187 hm186 => ?_
         obtain ⟨pr2, cr2, rfl, hm186q⟩ := Mem.bag rfl hm186
         clear hm186
         have HM189 := Lib.hid hm186q
         clear hm186q
         refine wD2 6 [_, _, _, _, _, _, _, _, _, _] [_, _, _, _, _, _, _, _, _, _, _, _] Tryz.call34 (Does.ofList (bbelow_d (listT [_, _]) _ (bagV X.1 q2) (vL 0 rfl rowT_reads) (Nat.le_trans (bagV_len hA.out.kept.ok q2) (by decide)) _ (bagV Y.1 q2) (vL 1 rfl rowT_reads) (Nat.le_trans (bagV_len hA.out.tm.kept.ok q2) (by decide)))) HM189 [2, 0] fun W191 hm190 => ?_
         rw [hbw.out]
         have HM192 := Lib.hid hm190
         clear hm190
         refine wT [7] ?_
         refine wZ (wp_cond_false rfl (wp_skip (block_normal (then_normal (wQ ?_)))))
         refine ⟨by kernel_rfl, ?_⟩
         exact ⟨ks.length - (j + 1), by omega, j + 1, rfl, rfl, hj1, (Mem.only (M := [_, _, _, _, _, _, _, _, _, _]) HM192.out [4, 4, 4, 4, 4, 3, 3, 2, 2, 2] rfl)⟩
        ·have hgj : ks.length ≤ j := by have : ¬ (j : Int) < (ks.length : Int) := (by simpa using h178); omega
         clear h178
         refine wp_exit ?_
         refine then_exit (then_exit (block_exit ?_))
         refine block_normal (then_normal ?_)
         refine ⟨by kernel_rfl, ?_⟩
         exact ⟨Hs, X, Y, G, A, xs, bs, pm, pb, cm, cb, rfl, rfl, hA.out.more, hxo.out, hbo.out, (by omega), (by omega), (Mem.only (M := [_, _, _, _, _, _, _, _, _]) HM177.out [1, 1, 1, 1, 1, 1, 1, 1, 1] rfl)⟩
    ·obtain ⟨h0, h1, h2, h3, h4⟩ := h0
     have g0 : (y.act == 0) = false := beq_eq_false_iff_ne.2 h0
     have g1 : (y.act == 1) = false := beq_eq_false_iff_ne.2 h1
     have g2 : (y.act == 2) = false := beq_eq_false_iff_ne.2 h2
     have g3 : (y.act == 3) = false := beq_eq_false_iff_ne.2 h3
     have g4 : (y.act == 4) = false := beq_eq_false_iff_ne.2 h4
     replace h0 := Lib.hid h0
     clear h1 h2 h3 h4
     refine wQ ?_
     refine wp_cond_false rfl (wQ ?_)
     refine wp_cond_false rfl (wp_seq (wQ ?_))
     refine wp_cond_false rfl (wp_seq (wp_seq (wQ ?_)))
     refine wp_cond_false rfl (wQ ?_)
     refine wp_cond_false rfl (wp_seq ?_)
     by_cases hp : ofK (keyN y.key) = (P : Int)
     rotate_left
     rcases (show Int.tmod y.at_ 2 = 0 ∨ Int.tmod y.at_ 2 ≠ 0 from by omega) with ht | ht
     ·have gp : ((pK (keyN y.key) : Int) == (P : Int)) = false := beq_eq_false_iff_ne.2 (by rw [pK_of (keyN_key y.key)]; exact hp)
      have gp2 : (pK (keyN y.key) == P) = false := beq_eq_false_iff_ne.2 (by have := pK_of (keyN_key y.key); omega)
      have gt : (Int.tmod y.at_ 2 == 0) = true := beq_iff_eq.2 ht
      replace hp := Lib.hid hp
      replace ht := Lib.hid ht
      refine wN [(0, 1), (1, 3), (2, 1), (3, 1), (4, 1), (5, 1), (6, 1), (7, 1), (8, 1), (9, 1)] (wT [0] ?_)
      refine wD1h 1 [_, _, _, _, _, _, _, _, _, _] [_, _, _, _, _, _, _, _, _, _] Tryz.call36 (spof_d (keyN y.key) (keyN_key y.key)) HM48 [] fun W194 HM195 => ?_
      refine wT [2, 3, 4, 5] ?_
      refine wM 6 (.int .i64 y.at_) (HM195.out.part1 0 rfl cxC_at) Tryz.underlying3 ?_
      refine wT [7, 8, 9] ?_
      refine wZ (wp_cond_true rfl (wp_seq ?_))
      obtain ⟨Z, d, e, hpv'⟩ : ∃ a b c, putV X 0 (keyN y.key) (fun _ => 0) kVa = (a, b, c) := ⟨_, _, _, rfl⟩
      have hpv := Lib.hid hpv'
      clear hpv'
      refine wN [(0, 1), (1, 1), (2, 1), (3, 3), (4, 1), (5, 1), (6, 1), (7, 3), (8, 3), (9, 1)] (wT [0, 1] ?_)
      refine wR 2 (v := vV (fun _ => 0)) (by kernel_rfl) ?_
      refine wD5h 3 [_, _, _, _, _, _, _, _] [_, _, _, _, _, _, _, _, _, _] Tryz.call27 (vput_e hA.out.kept hpv.out) HM195 [5, 5] fun W197 HM198 => ?_
      refine wT [4, 5, 6] ?_
      refine wpS_alloc (i := 7) (dd := 19) (z := .agg #[.int .i64 0, .int .i64 0]) (cs := #[.int .i64 0, .int .i64 0]) rfl (by rfl) rfl (by kernel_rfl) rfl HM198.out covS_nil rfl ?_
      rintro b201 W200 hm199 -
      have HM202 := Lib.hid hm199
      clear hm199
      simp only [Act.put, List.setIfInBounds_toArray, List.set_cons_succ, List.set_cons_zero]
      refine wXh 8 [_, _, _, _, _, _, _, _, _, _] [_, _] HM202 0 fun W204 HM205 => ?_
      refine wT [9] ?_
      refine wZ (wp_seq ?_)
      by_cases he : e = 0
      ·subst he
       obtain ⟨Hs', hT'⟩ := hA.out.put hpv.out
       have hT := Lib.hid hT'
       clear hT'
       refine wQ ?_
       refine wp_cond_true rfl (wN [(0, 1), (1, 1), (2, 3)] (wT [0, 1] ?_))
       refine wD2h 2 [_, _, _, _, _, _, _, _, _, _] [_, _, _, _, _, _, _, _, _, _, _] Tryz.call21 (gwrote_e hA.out.ok rfl rfl (keyN_key y.key) (by have := hA.out.due; omega)) HM205 [6] fun W207 HM208 => ?_
       refine wpS_nil (block_normal (then_normal ?_))
       refine ⟨by kernel_rfl, ?_⟩
       exact ⟨Hs', Z, Y, (wroteG G (keyN y.key)), A, xs, bs, pm, pb, cm, cb, rfl, rfl, hT.out, hxo.out, hbo.out, (by omega), (by omega), (Mem.only (M := [_, _, _, _, _, _, _, _, _]) HM208.out [5, 5, 0, 4, 1, 1, 2, 2, 2] rfl)⟩
      ·have hen := Lib.hid he
       have g17 : (e == 0) = false := beq_eq_false_iff_ne.2 he
       clear he
       refine wQ ?_
       refine wp_cond_false rfl (wp_skip (block_normal (then_normal ?_)))
       refine ⟨by kernel_rfl, ?_⟩
       obtain rfl := (put_no hpv.out hen.out).symm
       exact ⟨Hs, X, Y, G, A, xs, bs, pm, pb, cm, cb, rfl, rfl, hA.out.more, hxo.out, hbo.out, (by omega), (by omega), (Mem.only (M := [_, _, _, _, _, _, _, _, _]) HM205.out [4, 4, 4, 4, 1, 1, 2, 2, 2] rfl)⟩
     ·have gp : ((pK (keyN y.key) : Int) == (P : Int)) = false := beq_eq_false_iff_ne.2 (by rw [pK_of (keyN_key y.key)]; exact hp)
      have gp2 : (pK (keyN y.key) == P) = false := beq_eq_false_iff_ne.2 (by have := pK_of (keyN_key y.key); omega)
      have gt : (Int.tmod y.at_ 2 == 0) = false := beq_eq_false_iff_ne.2 ht
      replace hp := Lib.hid hp
      replace ht := Lib.hid ht
      refine wN [(0, 1), (1, 3), (2, 1), (3, 1), (4, 1), (5, 1), (6, 1), (7, 1), (8, 1), (9, 1)] (wT [0] ?_)
      refine wD1h 1 [_, _, _, _, _, _, _, _, _, _] [_, _, _, _, _, _, _, _, _, _] Tryz.call36 (spof_d (keyN y.key) (keyN_key y.key)) HM48 [] fun W210 HM211 => ?_
      refine wT [2, 3, 4, 5] ?_
      refine wM 6 (.int .i64 y.at_) (HM211.out.part1 0 rfl cxC_at) Tryz.underlying3 ?_
      refine wT [7, 8, 9] ?_
      refine wZ (wp_cond_false rfl (wp_skip (block_normal (then_normal ?_))))
      refine ⟨by kernel_rfl, ?_⟩
      exact ⟨Hs, X, Y, G, A, xs, bs, pm, pb, cm, cb, rfl, rfl, hA.out.more, hxo.out, hbo.out, (by omega), (by omega), (Mem.only (M := [_, _, _, _, _, _, _, _, _]) HM211.out [1, 1, 1, 1, 1, 1, 1, 1, 1] rfl)⟩
     ·have gp : ((pK (keyN y.key) : Int) == (P : Int)) = true := beq_iff_eq.2 (by rw [pK_of (keyN_key y.key)]; exact hp)
      have gp2 : (pK (keyN y.key) == P) = true := beq_iff_eq.2 (by have := pK_of (keyN_key y.key); omega)
      replace hp := Lib.hid hp
      refine wN [(0, 1), (1, 3), (2, 1), (3, 1), (4, 1), (5, 1), (6, 1), (7, 1), (8, 1), (9, 1)] (wT [0] ?_)
      refine wD1h 1 [_, _, _, _, _, _, _, _, _, _] [_, _, _, _, _, _, _, _, _, _] Tryz.call36 (spof_d (keyN y.key) (keyN_key y.key)) HM48 [] fun W213 HM214 => ?_
      refine wT [2, 3, 4, 5] ?_
      refine wK 6 ?_
      refine wT [7, 8, 9] ?_
      refine wZ (wp_cond_true rfl (wp_seq ?_))
      obtain ⟨Z, d, e, hpv'⟩ : ∃ a b c, putV X 0 (keyN y.key) (fun _ => 0) kVa = (a, b, c) := ⟨_, _, _, rfl⟩
      have hpv := Lib.hid hpv'
      clear hpv'
      refine wN [(0, 1), (1, 1), (2, 1), (3, 3), (4, 1), (5, 1), (6, 1), (7, 3), (8, 3), (9, 1)] (wT [0, 1] ?_)
      refine wR 2 (v := vV (fun _ => 0)) (by kernel_rfl) ?_
      refine wD5h 3 [_, _, _, _, _, _, _, _] [_, _, _, _, _, _, _, _, _, _] Tryz.call27 (vput_e hA.out.kept hpv.out) HM214 [5, 5] fun W216 HM217 => ?_
      refine wT [4, 5, 6] ?_
      refine wpS_alloc (i := 7) (dd := 19) (z := .agg #[.int .i64 0, .int .i64 0]) (cs := #[.int .i64 0, .int .i64 0]) rfl (by rfl) rfl (by kernel_rfl) rfl HM217.out covS_nil rfl ?_
      rintro b220 W219 hm218 -
      have HM221 := Lib.hid hm218
      clear hm218
      simp only [Act.put, List.setIfInBounds_toArray, List.set_cons_succ, List.set_cons_zero]
      refine wXh 8 [_, _, _, _, _, _, _, _, _, _] [_, _] HM221 0 fun W223 HM224 => ?_
      refine wT [9] ?_
      refine wZ (wp_seq ?_)
      by_cases he : e = 0
      ·subst he
       obtain ⟨Hs', hT'⟩ := hA.out.put hpv.out
       have hT := Lib.hid hT'
       clear hT'
       refine wQ ?_
       refine wp_cond_true rfl (wN [(0, 1), (1, 1), (2, 3)] (wT [0, 1] ?_))
       refine wD2h 2 [_, _, _, _, _, _, _, _, _, _] [_, _, _, _, _, _, _, _, _, _, _] Tryz.call21 (gwrote_e hA.out.ok rfl rfl (keyN_key y.key) (by have := hA.out.due; omega)) HM224 [6] fun W226 HM227 => ?_
       refine wpS_nil (block_normal (then_normal ?_))
       refine ⟨by kernel_rfl, ?_⟩
       exact ⟨Hs', Z, Y, (wroteG G (keyN y.key)), A, xs, bs, pm, pb, cm, cb, rfl, rfl, hT.out, hxo.out, hbo.out, (by omega), (by omega), (Mem.only (M := [_, _, _, _, _, _, _, _, _]) HM227.out [5, 5, 0, 4, 1, 1, 2, 2, 2] rfl)⟩
      ·have hen := Lib.hid he
       have g17 : (e == 0) = false := beq_eq_false_iff_ne.2 he
       clear he
       refine wQ ?_
       refine wp_cond_false rfl (wp_skip (block_normal (then_normal ?_)))
       refine ⟨by kernel_rfl, ?_⟩
       obtain rfl := (put_no hpv.out hen.out).symm
       exact ⟨Hs, X, Y, G, A, xs, bs, pm, pb, cm, cb, rfl, rfl, hA.out.more, hxo.out, hbo.out, (by omega), (by omega), (Mem.only (M := [_, _, _, _, _, _, _, _, _]) HM224.out [4, 4, 4, 4, 1, 1, 2, 2, 2] rfl)⟩
   ·rintro vs W' ⟨Hs, X, Y, G, A, xs, bs, pm, pb, cm, cb, e8, e9, hA', hxo', hbo', hxl, hbl, hm⟩
    simp only [putAll, List.map_cons, List.map_nil, Act.put, List.setIfInBounds_toArray, List.set_cons_succ, List.set_cons_zero]
    rw [e8, e9]
    clear e8 e9
    have hA := Lib.hid hA'
    clear hA'
    have hxo := Lib.hid hxo'
    clear hxo'
    have hbo := Lib.hid hbo'
    clear hbo'
    have HM228 := Lib.hid hm
    clear hm
    refine then_normal (wp_seq ?_)
    rcases (show 400 < xs.length ∨ (xs.length ≤ 400 ∧ 400 < bs.length) ∨ (xs.length ≤ 400 ∧ bs.length ≤ 400) from by omega) with hq1 | ⟨hq1, hq2⟩ | ⟨hq1, hq2⟩
    ·have g5 : decide ((400 : Int) < (xs.length : Int)) = true := decide_eq_true (by omega)
     have g5' : decide (400 < xs.length) = true := decide_eq_true hq1
     obtain ⟨no, hol'⟩ : ∃ z, (seqsG G).length = z := ⟨_, rfl⟩
     have hol := hol'
     clear hol'
     have hn4 : no ≤ 4 := by rw [← hol, seqsG, List.length_map]; exact hA.out.ok.len
     replace hol := Lib.hid hol
     have g7 : decide ((4 : Int) < (no : Int)) = false := decide_eq_false (by omega)
     have g7' : decide (4 < no) = false := decide_eq_false (by omega)
     refine wN [(0, 1), (1, 3), (2, 1), (3, 1), (4, 1), (5, 1), (6, 1), (7, 1), (8, 1), (9, 1), (10, 1), (11, 1), (12, 1), (13, 1)] (wT [0] ?_)
     refine wU1 1 [_, _, _, _, _, _, _, _] Tryz.call29 (gout_e hA.out.ok rfl) HM228 [2] fun u231 W230 hm229 => ?_
     obtain ⟨po, co, rfl, hm229q⟩ := Mem.nums hol.out hm229
     clear hm229
     have HM232 := Lib.hid hm229q
     clear hm229q
     refine wT [2, 3, 4, 5, 6, 7, 8, 9, 10, 11, 12, 13] ?_
     refine wZ (wp_cond_true rfl (wp_seq ?_))
     have g8 : decide ((no : Int) ≤ 4) = true := decide_eq_true (by omega)
     have g8' : decide (no ≤ 4) = true := decide_eq_true hn4
     refine wN [(0, 1), (1, 3), (2, 1), (3, 1), (4, 1), (5, 3), (6, 1), (7, 1)] (wT [0] ?_)
     refine wU1 1 [_, _, _, _, _, _, _, _, _] Tryz.call29 (gout_e hA.out.ok rfl) HM232 [1] fun u235 W234 hm233 => ?_
     obtain ⟨po2, co2, rfl, hm233q⟩ := Mem.nums hol.out hm233
     clear hm233
     have HM236 := Lib.hid hm233q
     clear hm233q
     refine wT [2, 3, 4] ?_
     refine wD0h 5 [_, _, _, _, _, _, _, _, _, _, _] [_, _, _, _, _, _, _, _, _, _, _] Tryz.call10 (gawake_d) HM236 [] fun W238 HM239 => ?_
     refine wT [6, 7] ?_
     refine wZ (wp_ret ?_)
     refine block_ret (then_ret (then_ret (block_ret (then_ret ?_))))
     refine bodyPost_ret (results_tmp rfl _ _ _) rfl ?_
     exact does_ret (Mem.only (M := [_]) HM239.out [10] rfl) rfl rfl
    ·have g5 : decide ((400 : Int) < (xs.length : Int)) = false := decide_eq_false (by omega)
     have g5' : decide (400 < xs.length) = false := decide_eq_false (by omega)
     have g6 : decide ((400 : Int) < (bs.length : Int)) = true := decide_eq_true (by omega)
     have g6' : decide (400 < bs.length) = true := decide_eq_true hq2
     obtain ⟨no, hol'⟩ : ∃ z, (seqsG G).length = z := ⟨_, rfl⟩
     have hol := hol'
     clear hol'
     have hn4 : no ≤ 4 := by rw [← hol, seqsG, List.length_map]; exact hA.out.ok.len
     replace hol := Lib.hid hol
     have g7 : decide ((4 : Int) < (no : Int)) = false := decide_eq_false (by omega)
     have g7' : decide (4 < no) = false := decide_eq_false (by omega)
     refine wN [(0, 1), (1, 3), (2, 1), (3, 1), (4, 1), (5, 1), (6, 1), (7, 1), (8, 1), (9, 1), (10, 1), (11, 1), (12, 1), (13, 1)] (wT [0] ?_)
     refine wU1 1 [_, _, _, _, _, _, _, _] Tryz.call29 (gout_e hA.out.ok rfl) HM228 [2] fun u242 W241 hm240 => ?_
     obtain ⟨po, co, rfl, hm240q⟩ := Mem.nums hol.out hm240
     clear hm240
     have HM243 := Lib.hid hm240q
     clear hm240q
     refine wT [2, 3, 4, 5, 6, 7, 8, 9, 10, 11, 12, 13] ?_
     refine wZ (wp_cond_true rfl (wp_seq ?_))
     have g8 : decide ((no : Int) ≤ 4) = true := decide_eq_true (by omega)
     have g8' : decide (no ≤ 4) = true := decide_eq_true hn4
     refine wN [(0, 1), (1, 3), (2, 1), (3, 1), (4, 1), (5, 3), (6, 1), (7, 1)] (wT [0] ?_)
     refine wU1 1 [_, _, _, _, _, _, _, _, _] Tryz.call29 (gout_e hA.out.ok rfl) HM243 [1] fun u246 W245 hm244 => ?_
     obtain ⟨po2, co2, rfl, hm244q⟩ := Mem.nums hol.out hm244
     clear hm244
     have HM247 := Lib.hid hm244q
     clear hm244q
     refine wT [2, 3, 4] ?_
     refine wD0h 5 [_, _, _, _, _, _, _, _, _, _, _] [_, _, _, _, _, _, _, _, _, _, _] Tryz.call10 (gawake_d) HM247 [] fun W249 HM250 => ?_
     refine wT [6, 7] ?_
     refine wZ (wp_ret ?_)
     refine block_ret (then_ret (then_ret (block_ret (then_ret ?_))))
     refine bodyPost_ret (results_tmp rfl _ _ _) rfl ?_
     exact does_ret (Mem.only (M := [_]) HM250.out [10] rfl) rfl rfl
    ·have g5 : decide ((400 : Int) < (xs.length : Int)) = false := decide_eq_false (by omega)
     have g5' : decide (400 < xs.length) = false := decide_eq_false (by omega)
     have g6 : decide ((400 : Int) < (bs.length : Int)) = false := decide_eq_false (by omega)
     have g6' : decide (400 < bs.length) = false := decide_eq_false (by omega)
     replace hxl := hq1
     replace hbl := hq2
     obtain ⟨no, hol'⟩ : ∃ z, (seqsG G).length = z := ⟨_, rfl⟩
     have hol := hol'
     clear hol'
     have hn4 : no ≤ 4 := by rw [← hol, seqsG, List.length_map]; exact hA.out.ok.len
     replace hol := Lib.hid hol
     have g7 : decide ((4 : Int) < (no : Int)) = false := decide_eq_false (by omega)
     have g7' : decide (4 < no) = false := decide_eq_false (by omega)
     refine wN [(0, 1), (1, 3), (2, 1), (3, 1), (4, 1), (5, 1), (6, 1), (7, 1), (8, 1), (9, 1), (10, 1), (11, 1), (12, 1), (13, 1)] (wT [0] ?_)
     refine wU1 1 [_, _, _, _, _, _, _, _] Tryz.call29 (gout_e hA.out.ok rfl) HM228 [2] fun u253 W252 hm251 => ?_
     obtain ⟨po, co, rfl, hm251q⟩ := Mem.nums hol.out hm251
     clear hm251
     have HM254 := Lib.hid hm251q
     clear hm251q
     refine wT [2, 3, 4, 5, 6, 7, 8, 9, 10, 11, 12, 13] ?_
     refine wZ (wp_cond_false rfl (wp_skip (block_normal (then_normal (wQ ?_)))))
     refine ⟨by kernel_rfl, ?_⟩
     exact ⟨l.length - (i + 1), by omega, i + 1, Hs, X, Y, G, A, xs, bs, pm, pb, cm, cb, rfl, rfl, rfl, rfl, hi1, hA.out, hxo.out, hbo.out, hxl, hbl, (Mem.only (M := [_, _, _, _, _, _, _, _, _]) HM254.out [2, 2, 1, 1, 1, 1, 1, 1, 1] rfl)⟩
  ·have hgi : l.length ≤ i := by have : ¬ (i : Int) < (l.length : Int) := (by simpa using h35); omega
   clear h35
   refine wp_exit ?_
   refine then_exit (then_exit (block_exit ?_))
   refine then_normal (wp_seq (wN [(0, 3), (1, 1)] ?_))
   refine wD0h 0 [_, _, _, _, _, _, _, _, _] [_, _, _, _, _, _, _, _, _] Tryz.call10 (gawake_d) HM34 [] fun W256 HM257 => ?_
   refine wT [1] ?_
   refine wZ (wp_ret (bodyPost_ret (results_tmp rfl _ _ _) rfl ?_))
   exact does_ret (Mem.only (M := [_]) HM257.out [8] rfl) rfl rfl
end Go.Proofs.YtcchkkdbagpgjaaGreat
