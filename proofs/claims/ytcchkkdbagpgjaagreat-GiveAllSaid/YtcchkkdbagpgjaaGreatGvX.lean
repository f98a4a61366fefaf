/- The landed giver: New, Wrote, Got, Ended. -/
import Derived.Test.YtcchkkdbagpgjaaGreatGvF
import Derived.Test.YtcchkkdbagpgjaaGreatBgE
import Derived.Test.YtcchkkdbagpgjaaGreatVtH
import Derived.Test.YtcchkkdbagpgjaaGreatPA
namespace Go.Proofs.YtcchkkdbagpgjaaGreat
open Go Go.RowKit Go.BigFrame
set_option maxHeartbeats 4000000 in
set_option maxRecDepth 100000 in
theorem gvnew_d (a b e t : Int) (h : mayG a b e t) : DoesU Tryz.prog 15 #[.int .i64 a, .int .i64 b, .int .i64 e, .int .i64 t] [] (fun u => [gvN u (newG a b e t)]) := by
 intro w H hp
 have HM0 := Lib.hid (mem_refl hp)
 clear hp
 go_enter Tryz.func15, Tryz.ntmps15
 refine wp_seq (wQ ?_)
 refine wp_seq (wp_seq ?_)
 have q0 := h.1
 have q1 := h.2.1
 have q2 := h.2.2.1
 have q4 := h.2.2.2.2
 have hna : Hid (nodeE a = true) := Lib.hid q0
 have hnt : Hid (nodeE t = true) := Lib.hid q1
 have g3 : (a == t) = false := beq_eq_false_iff_ne.2 q2
 have g4 : decide (e < 1) = false := decide_eq_false (by omega)
 have g5 : decide ((1000000 : Int) < e) = false := decide_eq_false (by omega)
 refine wN [(0, 1), (1, 3), (2, 1), (3, 1), (4, 1), (5, 3), (6, 1), (7, 1), (8, 1), (9, 1), (10, 1), (11, 1), (12, 1), (13, 1), (14, 1), (15, 1), (16, 1), (17, 1), (18, 1), (19, 1), (20, 1)] (wT [0] ?_)
 refine wD1 1 [] [] Tryz.call40 (gvnode_d a) HM0 [] fun W2 hm1 => ?_
 rw [hna.out]
 have HM3 := Lib.hid hm1
 clear hm1
 refine wT [2, 3, 4] ?_
 refine wD1 5 [] [] Tryz.call40 (gvnode_d t) HM3 [] fun W5 hm4 => ?_
 rw [hnt.out]
 have HM6 := Lib.hid hm4
 clear hm4
 refine wT [6, 7, 8, 9, 10, 11, 12, 13, 14, 15, 16, 17, 18, 19, 20] ?_
 refine wZ (wp_cond_false rfl (wp_skip (then_normal (wp_seq (wN [(0, 1), (1, 3), (2, 1)] (wT [0] ?_))))))
 refine wU1 1 [] Tryz.call41 (fnew_d b h.2.2.2.1) HM6 [] fun u9 W8 hm7 => ?_
 obtain ⟨c, rfl, hm7q⟩ := Mem.fdN hm7
 clear hm7
 have HM10 := Lib.hid hm7q
 clear hm7q
 refine wT [2] ?_
 refine wZ (wp_seq (wp_seq (wQ ?_)))
 refine wp_cond_false rfl (wp_skip (then_normal (wp_seq (wN [(0, 1), (1, 1), (2, 1), (3, 1), (4, 1), (5, 1), (6, 3), (7, 1)] (wT [0, 1, 2, 3, 4, 5] ?_)))))
 refine wBh 6 HM10 fun b13 W12 HM14 => ?_
 refine wT [7] ?_
 refine wZ (wp_ret (bodyPost_ret (results_tmp rfl _ _ _) rfl ?_))
 have h1 := Mem.pcNil (Mem.nilRow elemPq (Mem.nilL (Mem.only (M := [_, _]) HM14.out [0, 0] rfl)))
 have h2 := (Mem.only (M := [_, _, _, _, _]) h1 [3, 1, 2, 0, 0] rfl)
 exact doesU_ret (post := fun u => [gvN u (newG a b e t)]) (Mem.addEx _ (Mem.addPr rfl (Mem.toGv (D := []) (G := newG a b e t) rfl (fun x h => by cases h) (Mem.toGh (xs := []) (fun k _ hk => absurd hk (Nat.not_lt_zero k)) (List.Perm.refl _) (Mem.toGq (xs := []) rfl h2))))) rfl
set_option maxHeartbeats 4000000 in
set_option maxRecDepth 100000 in
theorem gwrote_d (g : Nat) (A : At) (G : Gv) (hG : GvOk G) (k : ByteArray) (hk : keyB k = true) (hd : G.F.due.length < 2000) : Does Tryz.prog 21 #[.pointer (some ⟨g, 0, none⟩), .string k] [gvT g A G] (.bool (backB G.F k)) [gvT g A (wroteG G k)] := by
 intro w H hp
 have HM0 := Lib.hid (mem_refl hp)
 clear hp
 obtain ⟨D, c, hDo', hDr', HM1'⟩ := Mem.gv HM0.out
 clear HM0
 have HM0 := Lib.hid HM1'
 clear HM1'
 have hDo := Lib.hid hDo'
 clear hDo'
 have hDr := Lib.hid hDr'
 clear hDr'
 go_enter Tryz.func21, Tryz.ntmps21
 refine wp_seq (wQ ?_)
 refine wp_seq (wp_seq ?_)
 obtain ⟨xs, hh', hp', HS1⟩ := Mem.gh (Mem.only (M := [_, _, _]) HM0.out [0, 0, 0] rfl)
 have hh := Lib.hid hh'
 clear hh'
 have hp := Lib.hid hp'
 clear hp'
 have HM2 := Lib.hid HS1
 clear HS1
 obtain ⟨p, m, HS3⟩ := Mem.gq (Mem.only (M := [_, _, _]) HM2.out [0, 0, 0] rfl)
 have HM4 := Lib.hid HS3
 clear HS3
 refine wQ ?_
 refine wp_cond_false rfl (wp_skip (then_normal (wp_seq (wp_seq ?_))))
 by_cases hp : ofK k = G.part
 ·have gp : ((pK k : Int) == G.part) = true := beq_iff_eq.2 (by rw [pK_of hk]; exact hp)
  have hwr : Hid (wroteG G k = (⟨G.self, G.part, G.epoch, G.dst, backF G.F k, G.seq, G.ticks, false, G.out⟩ : Gv)) := Lib.hid (by unfold wroteG; rw [if_pos hp])
  clear hp
  refine wp_region_M (fun k => k ∈ ([g] : List Nat)) [(0, 1), (2, 0), (3, 0), (4, 0), (5, 2), (1, 3), (6, 1)] (by kernel_rfl) (by kernel_rfl) HM4.out ?_
  intro W5 hm6
  have HM7 := Lib.hid hm6
  clear hm6
  refine wT [0] ?_
  refine wA [2, 3, 4] ?_
  have Cbx := Mem.cell HM7.out 0 rfl
  refine wS [5] ?_
  clear Cbx
  refine wD1h (hS := (covS_box 0 rfl covS_nil)) 1 [_, _, _, _] [_, _, _, _] Tryz.call36 (spof_d k hk) HM7 [] fun W9 HM11 => ?_
  refine wT [6] ?_
  refine wZ (wp_cond_true rfl (wN [(0, 1), (1, 1), (2, 1), (3, 3)] (wT [0, 1, 2] ?_)))
  refine wpS_store1 (i := 3) (v := .bool _) (L2 := [_, _, _]) (cs' := [.int .i64 G.self, .int .i64 G.part, .int .i64 G.epoch, .int .i64 G.dst, .pointer (some ⟨c, 0, none⟩), .slice p xs.length m, .int .i64 G.seq, .int .i64 G.ticks, .bool false]) rfl (by rfl) rfl rfl rfl rfl (by kernel_rfl) rfl HM11.out 0 rfl rfl rfl rfl covS_nil rfl ?_
  rintro W13 hm12 -
  have HM14 := Lib.hid hm12
  clear hm12
  refine wZ (wp_seq (wN [(0, 1), (1, 1), (2, 1), (3, 1), (4, 1), (5, 3), (6, 1)] ?_))
  have Cbx := Mem.cell HM14.out 0 rfl
  refine wT [0, 1, 2, 3, 4] ?_
  clear Cbx
  refine wD2h 5 [_, _, _] [_, _, _, _] Tryz.call51 (fback_d c G.F hG.fd k hk hd) HM14 [2] fun W16 HM17 => ?_
  refine wT [6] ?_
  refine wZ (wp_ret (bodyPost_ret (results_tmp rfl _ _ _) rfl ?_))
  rw [hwr.out]
  exact does_ret (Mem.toGv (G := (⟨G.self, G.part, G.epoch, G.dst, backF G.F k, G.seq, G.ticks, false, G.out⟩ : Gv)) hDo.out hDr.out (Mem.toGh (G := (⟨G.self, G.part, G.epoch, G.dst, backF G.F k, G.seq, G.ticks, false, G.out⟩ : Gv)) hh.out hp.out (Mem.toGq (G := (⟨G.self, G.part, G.epoch, G.dst, backF G.F k, G.seq, G.ticks, false, G.out⟩ : Gv)) rfl (Mem.only (M := [_, _, _, _]) HM17.out [1, 1, 0, 0] rfl)))) rfl rfl
 ·have gp : ((pK k : Int) == G.part) = false := beq_eq_false_iff_ne.2 (by rw [pK_of hk]; exact hp)
  have hwr : Hid (wroteG G k = (⟨G.self, G.part, G.epoch, G.dst, backF G.F k, G.seq, G.ticks, G.ends, G.out⟩ : Gv)) := Lib.hid (by unfold wroteG; rw [if_neg hp])
  clear hp
  refine wp_region_M (fun k => k ∈ ([g] : List Nat)) [(0, 1), (2, 0), (3, 0), (4, 0), (5, 2), (1, 3), (6, 1)] (by kernel_rfl) (by kernel_rfl) HM4.out ?_
  intro W18 hm19
  have HM20 := Lib.hid hm19
  clear hm19
  refine wT [0] ?_
  refine wA [2, 3, 4] ?_
  have Cbx := Mem.cell HM20.out 0 rfl
  refine wS [5] ?_
  clear Cbx
  refine wD1h (hS := (covS_box 0 rfl covS_nil)) 1 [_, _, _, _] [_, _, _, _] Tryz.call36 (spof_d k hk) HM20 [] fun W22 HM24 => ?_
  refine wT [6] ?_
  refine wZ (wp_cond_false rfl (wp_skip (then_normal (wp_seq (wN [(0, 1), (1, 1), (2, 1), (3, 1), (4, 1), (5, 3), (6, 1)] ?_)))))
  have Cbx := Mem.cell HM24.out 0 rfl
  refine wT [0, 1, 2, 3, 4] ?_
  clear Cbx
  refine wD2h 5 [_, _, _] [_, _, _, _] Tryz.call51 (fback_d c G.F hG.fd k hk hd) HM24 [2] fun W26 HM27 => ?_
  refine wT [6] ?_
  refine wZ (wp_ret (bodyPost_ret (results_tmp rfl _ _ _) rfl ?_))
  rw [hwr.out]
  exact does_ret (Mem.toGv (G := (⟨G.self, G.part, G.epoch, G.dst, backF G.F k, G.seq, G.ticks, G.ends, G.out⟩ : Gv)) hDo.out hDr.out (Mem.toGh (G := (⟨G.self, G.part, G.epoch, G.dst, backF G.F k, G.seq, G.ticks, G.ends, G.out⟩ : Gv)) hh.out hp.out (Mem.toGq (G := (⟨G.self, G.part, G.epoch, G.dst, backF G.F k, G.seq, G.ticks, G.ends, G.out⟩ : Gv)) rfl (Mem.only (M := [_, _, _, _]) HM27.out [1, 1, 0, 0] rfl)))) rfl rfl
theorem got_at {G : Gv} (hG : GvOk G) {m : Ms} {o : Ot} (ho : o ∈ G.out) (hs : o.seq = m.seq) : G.out.any (isO m) = isO m o := by
 rw [Bool.eq_iff_iff, List.any_eq_true]
 constructor
 ·rintro ⟨o2, h1, h2⟩
  have h3 := h2
  unfold isO at h3
  rw [Bool.and_eq_true] at h3
  have e1 : o2.seq = m.seq := of_decide_eq_true h3.1
  have eo : o2 = o := by
   obtain ⟨a, ha⟩ := List.mem_iff_getElem?.1 ho
   obtain ⟨b, hb⟩ := List.mem_iff_getElem?.1 h1
   obtain ⟨ha1, ha2⟩ := List.getElem?_eq_some_iff.1 ha
   obtain ⟨hb1, hb2⟩ := List.getElem?_eq_some_iff.1 hb
   have hp := List.pairwise_iff_getElem.1 hG.srt
   rcases Nat.lt_trichotomy a b with hab | hab | hab
   ·have := hp a b ha1 hb1 hab
    rw [ha2, hb2] at this
    omega
   ·subst hab
    rw [← ha2, ← hb2]
   ·have := hp b a hb1 ha1 hab
    rw [ha2, hb2] at this
    omega
  rw [← eo]
  exact h2
 ·exact fun h => ⟨o, ho, h⟩
theorem got_mine {G : Gv} {m : Ms} (h : mineG G 6 m = false) : gotB G m = false := by unfold gotB; rw [h]; rfl
theorem got_none {G : Gv} {m : Ms} (h : ∀ o ∈ G.out, o.seq ≠ m.seq) : gotB G m = false := by
 unfold gotB
 rw [Bool.and_eq_false_iff]
 refine .inr (Bool.eq_false_iff.2 fun ha => ?_)
 obtain ⟨o, ho, h2⟩ := List.any_eq_true.1 ha
 unfold isO at h2
 rw [Bool.and_eq_true] at h2
 exact h o ho (of_decide_eq_true h2.1)
theorem got_is {G : Gv} (hG : GvOk G) {m : Ms} (hm : mineG G 6 m = true) {o : Ot} (ho : o ∈ G.out) (hs : o.seq = m.seq) : gotB G m = (decide (o.key = m.key) && sameB o.b m.b) := by
 unfold gotB
 rw [hm, got_at hG ho hs, Bool.true_and]
 unfold isO
 rw [decide_eq_true hs, Bool.true_and]
theorem rem_perm {D : List Pz} (hs : D.Pairwise fun a b => a.o.seq < b.o.seq) {x : Pz} (hx : x ∈ D) {s : Int} (he : x.o.seq = s) : D.Perm (x :: D.filter fun y => decide (y.o.seq ≠ s)) := by
 obtain ⟨l1, l2, rfl⟩ := List.append_of_mem hx
 obtain ⟨_, h2, h3⟩ := List.pairwise_append.1 hs
 have e1 : (l1.filter fun y => decide (y.o.seq ≠ s)) = l1 := List.filter_eq_self.2 fun y hy => decide_eq_true (by have := h3 y hy x List.mem_cons_self; omega)
 have e2 : (l2.filter fun y => decide (y.o.seq ≠ s)) = l2 := List.filter_eq_self.2 fun y hy => decide_eq_true (by have := (List.pairwise_cons.1 h2).1 y hy; omega)
 rw [List.filter_append, List.filter_cons_of_neg (p := fun y : Pz => decide (y.o.seq ≠ s)) (by rw [decide_eq_false (fun h => h he)]; decide), e1, e2]
 exact List.perm_middle
theorem rem_out {D : List Pz} {G : Gv} (h : D.map (fun x => x.o) = G.out) (s : Int) : (D.filter fun y => decide (y.o.seq ≠ s)).map (fun x => x.o) = G.out.filter fun o => decide (o.seq ≠ s) := by
 rw [← h, List.filter_map]
 rfl
theorem got_yes {G : Gv} {m : Ms} (h : gotB G m = true) : gotG G m = ⟨G.self, G.part, G.epoch, G.dst, G.F, G.seq, G.ticks, G.ends, G.out.filter fun o => decide (o.seq ≠ m.seq)⟩ := if_pos h
theorem run_neX {x y : Operand} {tt : TypeId} {a : Act} {o : Oper} {W : World} {s t : ByteArray} {b : Bool} (hb : (!decide (s = t)) = b) (ho : o.op = .binOp .neq 9 x y tt) (hx : a.eval x = .string s) (hy : a.eval y = .string t) : (execOp a.eval o).run Tryz.prog W = .ok (.value (.bool b)) W := by
 subst hb
 have hg : (eqGuard .neq 9 x y (.string s) (.string t)).run Tryz.prog W = .ok () W := by simp [eqGuard, go_sem]
 unfold execOp
 simp only [ho, hx, hy, Sem.run_bind, hg, Result.andThen_ok, binOp_string_neq, Sem.run_pure]
 rw [← bytes_beq]
set_option maxHeartbeats 4000000 in
set_option maxRecDepth 100000 in
theorem ggot_d (g : Nat) (A R : At) (G : Gv) (hG : GvOk G) (m : Ms) (sv : Value) (hm : Reads elemV R sv m.b.v) (lm : m.b.v.length ≤ 4398046510976) (rp cp : Option Addr) (rn rc cn cc : Nat) : Does Tryz.prog 23 #[.pointer (some ⟨g, 0, none⟩), msV m sv (.slice rp rn rc) (.slice cp cn cc)] [gvT g A G, A, R] (.bool (gotB G m)) [gvT g A (gotG G m), A, R] := by
 intro w H hp
 have HM0 := Lib.hid (mem_refl hp)
 clear hp
 obtain ⟨D, c, hDo', hDr', HM1'⟩ := Mem.gv HM0.out
 clear HM0
 have HM0 := Lib.hid HM1'
 clear HM1'
 have hDo := Lib.hid hDo'
 clear hDo'
 have hDr := Lib.hid hDr'
 clear hDr'
 obtain ⟨vp, vc, rfl⟩ := row_form (Mem.src HM0.out 4 rfl hm)
 obtain ⟨vn, hvn⟩ : ∃ z, m.b.v.length = z := ⟨_, rfl⟩
 rw [hvn] at hm ⊢
 go_enter Tryz.func23, Tryz.ntmps23
 refine wp_seq (wN [(0, 3), (1, 1)] ?_)
 refine wBh 0 HM0 fun b3 W2 HM4 => ?_
 refine wT [1] ?_
 refine wZ (wp_seq (wp_seq ?_))
 obtain ⟨z, hmn'⟩ := bool_letter (mineG G 6 m)
 have hmn := Lib.hid hmn'
 clear hmn'
 cases z
 ·have hgb := Lib.hid (got_mine hmn.out)
  obtain ⟨xs, hh', hp', HS5⟩ := Mem.gh (Mem.only (M := [_, _, _, _, _, _]) HM4.out [1, 0, 0, 0, 0, 0] rfl)
  have hh := Lib.hid hh'
  clear hh'
  have hp := Lib.hid hp'
  clear hp'
  have hxl : Hid (xs.length ≤ 4) := Lib.hid (by rw [hp.out.length_eq, gv_len hDo.out]; exact hG.len)
  have HM6 := Lib.hid HS5
  clear HS5
  obtain ⟨p, q, HS7⟩ := Mem.gq (Mem.only (M := [_, _, _, _, _, _]) HM6.out [0, 0, 0, 0, 0, 0] rfl)
  have HM8 := Lib.hid HS7
  clear HS7
  refine wN [(0, 1), (1, 1), (2, 1), (3, 1), (4, 1), (5, 3), (6, 1), (7, 1)] (wT [0, 1, 2, 3] ?_)
  refine wL 4 (msC (m) (.slice vp vn vc) (.slice rp rn rc) (.slice cp cn cc)) (HM8.out.part 2 rfl (msC_all)) Tryz.underlying52 ?_
  refine wD3 5 [_, _, _, _, _, _] [_, _, _, _, _, _, _] Tryz.call54 (gisans_d g c G (.slice p xs.length q) 6 m vp rp cp vn vc rn rc cn cc) HM8 [0] fun W10 hm9 => ?_
  rw [hmn.out]
  have HM11 := Lib.hid hm9
  clear hm9
  refine wT [6, 7] ?_
  refine wZ (wp_cond_true rfl (wp_seq (wQ ?_)))
  refine wp_ret (then_ret (bodyPost_ret (results_tmp rfl _ _ _) rfl ?_))
  rw [hgb.out, got_no hgb.out]
  exact does_ret (Mem.toGv hDo.out hDr.out (Mem.toGh hh.out hp.out (Mem.toGq rfl (Mem.only (M := [_, _, _, _, _, _]) HM11.out [0, 0, 1, 1, 1, 1] rfl)))) rfl rfl
 ·skip
  obtain ⟨xs, hh', hp', HS12⟩ := Mem.gh (Mem.only (M := [_, _, _, _, _, _]) HM4.out [1, 0, 0, 0, 0, 0] rfl)
  have hh := Lib.hid hh'
  clear hh'
  have hp := Lib.hid hp'
  clear hp'
  have hxl : Hid (xs.length ≤ 4) := Lib.hid (by rw [hp.out.length_eq, gv_len hDo.out]; exact hG.len)
  have HM13 := Lib.hid HS12
  clear HS12
  obtain ⟨p, q, HS14⟩ := Mem.gq (Mem.only (M := [_, _, _, _, _, _]) HM13.out [0, 0, 0, 0, 0, 0] rfl)
  have HM15 := Lib.hid HS14
  clear HS14
  refine wN [(0, 1), (1, 1), (2, 1), (3, 1), (4, 1), (5, 3), (6, 1), (7, 1)] (wT [0, 1, 2, 3] ?_)
  refine wL 4 (msC (m) (.slice vp vn vc) (.slice rp rn rc) (.slice cp cn cc)) (HM15.out.part 2 rfl (msC_all)) Tryz.underlying52 ?_
  refine wD3 5 [_, _, _, _, _, _] [_, _, _, _, _, _, _] Tryz.call54 (gisans_d g c G (.slice p xs.length q) 6 m vp rp cp vn vc rn rc cn cc) HM15 [0] fun W17 hm16 => ?_
  rw [hmn.out]
  have HM18 := Lib.hid hm16
  clear hm16
  refine wT [6, 7] ?_
  refine wZ (wp_cond_false rfl (wp_skip (then_normal (wp_seq ?_))))
  rcases idxO_ways m.seq xs 0 with ⟨hi, hnx⟩ | ⟨k, x, hx', hsq, hi⟩
  ·have hgb := Lib.hid (got_none (G := G) (m := m) (by rw [← hDo.out]; intro o ho; obtain ⟨z, hz, rfl⟩ := List.mem_map.1 ho; exact hnx z (hp.out.symm.subset hz)))
   have hie := Lib.hid hi
   clear hnx hi
   refine wp_region_M (fun k => k ∈ ([] : List Nat)) [(0, 1), (1, 1), (2, 1), (3, 1), (4, 1), (5, 1), (6, 3), (7, 1)] (by kernel_rfl) (by kernel_rfl) HM18.out ?_
   intro W19 hm20
   have HM21 := Lib.hid hm20
   clear hm20
   have Cbx := Mem.cell HM21.out 0 rfl
   refine wT [0, 1, 2, 3, 4] ?_
   clear Cbx
   refine wM 5 (.int .i64 m.seq) (HM21.out.part1 2 rfl msC_seq) Tryz.underlying3 ?_
   refine wD2 6 [_, _, _, _, _] [_, _, _, _, _, _, _] Tryz.call55 (pindex_d _ p q xs D rowT_reads (fun z hz => hp.out.subset hz) (by have := hxl.out; omega) m.seq) HM21 [1, 3] fun W23 hm22 => ?_
   rw [hie.out]
   have HM24 := Lib.hid hm22
   clear hm22
   refine wT [7] ?_
   refine wZ (wp_seq (wp_seq ?_))
   skip
   ·have g1 : decide ((-1 : Int) < 0) = true := rfl
    refine wp_region_M (fun k => k ∈ ([] : List Nat)) [(0, 1), (1, 1), (2, 1), (3, 1), (4, 1), (5, 1), (6, 1), (7, 1), (8, 1), (9, 1), (10, 1), (11, 1), (12, 1), (13, 1), (14, 1), (15, 1), (16, 1), (17, 1), (18, 1), (19, 1), (20, 1), (21, 1), (22, 1), (23, 1), (24, 1), (25, 1), (26, 1), (27, 1), (28, 1), (29, 1), (30, 1), (31, 1), (32, 3), (33, 1), (34, 1)] (by kernel_rfl) (by kernel_rfl) HM24.out ?_
    intro W25 hm26
    have HM27 := Lib.hid hm26
    clear hm26
    have Cbx := Mem.cell HM27.out 2 rfl
    refine wT [0, 1, 2, 3, 4, 5, 6, 7] ?_
    clear Cbx
    refine wK 8 ?_
    refine wK 9 ?_
    refine wT [10, 11, 12] ?_
    refine wK 13 ?_
    refine wT [14] ?_
    refine wK 15 ?_
    refine wK 16 ?_
    have Cbx := Mem.cell HM27.out 2 rfl
    refine wT [17, 18, 19, 20, 21, 22, 23] ?_
    clear Cbx
    refine wK 24 ?_
    refine wK 25 ?_
    refine wT [26, 27, 28] ?_
    refine wK 29 ?_
    refine wT [30] ?_
    refine wK 31 ?_
    refine wK 32 ?_
    refine wT [33, 34] ?_
    refine wZ (wp_cond_true rfl (wp_seq (wQ ?_)))
    refine wp_ret (then_ret (bodyPost_ret (results_tmp rfl _ _ _) rfl ?_))
    rw [hgb.out, got_no hgb.out]
    exact does_ret (Mem.toGv hDo.out hDr.out (Mem.toGh hh.out hp.out (Mem.toGq rfl (Mem.only (M := [_, _, _, _, _, _]) HM27.out [2, 0, 2, 0, 1, 1] rfl)))) rfl rfl
  ·rw [Nat.zero_add] at hi
   have hie := Lib.hid hi
   have hseq := Lib.hid hsq
   have hx := Lib.hid hx'
   have hxD : x ∈ D := hp.out.subset (List.mem_of_getElem? hx')
   have hgi := got_is hG hmn.out (o := x.o) (by rw [← hDo.out]; exact List.mem_map.2 ⟨x, hxD, rfl⟩) hsq
   replace hgi := Lib.hid hgi
   clear hi hsq hx'
   refine wp_region_M (fun k => k ∈ ([] : List Nat)) [(0, 1), (1, 1), (2, 1), (3, 1), (4, 1), (5, 1), (6, 3), (7, 1)] (by kernel_rfl) (by kernel_rfl) HM18.out ?_
   intro W28 hm29
   have HM30 := Lib.hid hm29
   clear hm29
   have Cbx := Mem.cell HM30.out 0 rfl
   refine wT [0, 1, 2, 3, 4] ?_
   clear Cbx
   refine wM 5 (.int .i64 m.seq) (HM30.out.part1 2 rfl msC_seq) Tryz.underlying3 ?_
   refine wD2 6 [_, _, _, _, _] [_, _, _, _, _, _, _] Tryz.call55 (pindex_d _ p q xs D rowT_reads (fun z hz => hp.out.subset hz) (by have := hxl.out; omega) m.seq) HM30 [1, 3] fun W32 hm31 => ?_
   rw [hie.out]
   have HM33 := Lib.hid hm31
   clear hm31
   refine wT [7] ?_
   refine wZ (wp_seq (wp_seq ?_))
   have g1 : decide ((k : Int) < 0) = false := decide_eq_false (by omega)
   by_cases hky : x.o.key = m.key
   obtain ⟨z, hsb'⟩ := bool_letter (sameB x.o.b m.b)
   have hsb := Lib.hid hsb'
   clear hsb'
   cases z
   ·have g2 : Hid ((!decide (x.o.key = m.key)) = false) := Lib.hid (by rw [decide_eq_true hky]; rfl)
    have hgb : Hid (gotB G m = false) := Lib.hid (by rw [hgi.out, hsb.out, Bool.and_false])
    clear hky
    refine wp_region_M (fun k => k ∈ ([] : List Nat)) [(0, 1), (1, 1), (2, 1), (3, 1), (4, 1), (5, 1), (6, 1), (7, 1), (8, 1), (9, 1), (10, 1), (11, 1), (12, 1), (13, 1), (14, 1), (15, 1), (16, 1), (17, 1), (18, 1), (19, 1), (20, 1), (21, 1), (22, 1), (23, 1), (24, 1), (25, 1), (26, 1), (27, 1), (28, 1), (29, 1), (30, 1), (31, 1), (32, 3), (33, 1), (34, 1)] (by kernel_rfl) (by kernel_rfl) HM33.out ?_
    intro W34 hm35
    have HM36 := Lib.hid hm35
    clear hm35
    have Cbx := Mem.cell HM36.out 2 rfl
    refine wT [0, 1, 2, 3, 4, 5, 6, 7] ?_
    clear Cbx
    refine wI elemPq 8 (rowAt_src (Mem.src HM36.out 0 rfl rowT_reads)) (bksP_at hx.out) fun eb37 eo38 hc39 => ?_
    refine wM 9 (.pointer (some ⟨x.b, 0, none⟩)) (hc39 0 _ rfl) Tryz.underlying124 ?_
    refine wT [10, 11, 12] ?_
    refine wM 13 (.string x.o.key) (Mem.pcCell HM36.out 1 rfl (hxD) 1 pcC_key) Tryz.underlying9 ?_
    refine wT [14] ?_
    refine wM 15 (.string m.key) (HM36.out.part1 3 rfl msC_key) Tryz.underlying9 ?_
    refine wR 16 (run_neX (s := x.o.key) (t := m.key) g2.out rfl rfl rfl) ?_
    have Cbx := Mem.cell HM36.out 2 rfl
    refine wT [17, 18, 19, 20, 21, 22, 23] ?_
    clear Cbx
    refine wI elemPq 24 (rowAt_src (Mem.src HM36.out 0 rfl rowT_reads)) (bksP_at hx.out) fun eb40 eo41 hc42 => ?_
    refine wM 25 (.pointer (some ⟨x.b, 0, none⟩)) (hc42 0 _ rfl) Tryz.underlying124 ?_
    refine wT [26, 27, 28] ?_
    refine wL 29 (bgC x.o.b.k x.sv) (fun k u h => Mem.pcCell HM36.out 1 rfl hxD (2 + k) (pcC_bag k u h)) Tryz.underlying41 ?_
    refine wT [30] ?_
    refine wL 31 (bgC m.b.k (.slice vp vn vc)) (HM36.out.part 3 rfl (msC_bag)) Tryz.underlying41 ?_
    refine wD2 32 [_, _, _, _, _] [_, _, _, _, _, _, _] Tryz.call44 (Does.ofList (bsame_d (listT [_, _]) _ x.o.b (vL 0 rfl (hDr.out x hxD).1) (Nat.le_trans (hDr.out x hxD).2 (by decide)) _ m.b (vL 1 rfl hm) lm)) HM36 [5, 5] fun W44 hm43 => ?_
    rw [hsb.out]
    have HM45 := Lib.hid hm43
    clear hm43
    refine wT [33, 34] ?_
    refine wZ (wp_cond_true rfl (wp_seq (wQ ?_)))
    refine wp_ret (then_ret (bodyPost_ret (results_tmp rfl _ _ _) rfl ?_))
    rw [hgb.out, got_no hgb.out]
    exact does_ret (Mem.toGv hDo.out hDr.out (Mem.toGh hh.out hp.out (Mem.toGq rfl (Mem.only (M := [_, _, _, _, _, _]) HM45.out [4, 2, 4, 2, 0, 0] rfl)))) rfl rfl
   ·have g2 : Hid ((!decide (x.o.key = m.key)) = false) := Lib.hid (by rw [decide_eq_true hky]; rfl)
    have hgb : Hid (gotB G m = true) := Lib.hid (by rw [hgi.out, hsb.out, decide_eq_true hky]; rfl)
    clear hky
    refine wp_region_M (fun k => k ∈ ([] : List Nat)) [(0, 1), (1, 1), (2, 1), (3, 1), (4, 1), (5, 1), (6, 1), (7, 1), (8, 1), (9, 1), (10, 1), (11, 1), (12, 1), (13, 1), (14, 1), (15, 1), (16, 1), (17, 1), (18, 1), (19, 1), (20, 1), (21, 1), (22, 1), (23, 1), (24, 1), (25, 1), (26, 1), (27, 1), (28, 1), (29, 1), (30, 1), (31, 1), (32, 3), (33, 1), (34, 1)] (by kernel_rfl) (by kernel_rfl) HM33.out ?_
    intro W46 hm47
    have HM48 := Lib.hid hm47
    clear hm47
    have Cbx := Mem.cell HM48.out 2 rfl
    refine wT [0, 1, 2, 3, 4, 5, 6, 7] ?_
    clear Cbx
    refine wI elemPq 8 (rowAt_src (Mem.src HM48.out 0 rfl rowT_reads)) (bksP_at hx.out) fun eb49 eo50 hc51 => ?_
    refine wM 9 (.pointer (some ⟨x.b, 0, none⟩)) (hc51 0 _ rfl) Tryz.underlying124 ?_
    refine wT [10, 11, 12] ?_
    refine wM 13 (.string x.o.key) (Mem.pcCell HM48.out 1 rfl (hxD) 1 pcC_key) Tryz.underlying9 ?_
    refine wT [14] ?_
    refine wM 15 (.string m.key) (HM48.out.part1 3 rfl msC_key) Tryz.underlying9 ?_
    refine wR 16 (run_neX (s := x.o.key) (t := m.key) g2.out rfl rfl rfl) ?_
    have Cbx := Mem.cell HM48.out 2 rfl
    refine wT [17, 18, 19, 20, 21, 22, 23] ?_
    clear Cbx
    refine wI elemPq 24 (rowAt_src (Mem.src HM48.out 0 rfl rowT_reads)) (bksP_at hx.out) fun eb52 eo53 hc54 => ?_
    refine wM 25 (.pointer (some ⟨x.b, 0, none⟩)) (hc54 0 _ rfl) Tryz.underlying124 ?_
    refine wT [26, 27, 28] ?_
    refine wL 29 (bgC x.o.b.k x.sv) (fun k u h => Mem.pcCell HM48.out 1 rfl hxD (2 + k) (pcC_bag k u h)) Tryz.underlying41 ?_
    refine wT [30] ?_
    refine wL 31 (bgC m.b.k (.slice vp vn vc)) (HM48.out.part 3 rfl (msC_bag)) Tryz.underlying41 ?_
    refine wD2 32 [_, _, _, _, _] [_, _, _, _, _, _, _] Tryz.call44 (Does.ofList (bsame_d (listT [_, _]) _ x.o.b (vL 0 rfl (hDr.out x hxD).1) (Nat.le_trans (hDr.out x hxD).2 (by decide)) _ m.b (vL 1 rfl hm) lm)) HM48 [5, 5] fun W56 hm55 => ?_
    rw [hsb.out]
    have HM57 := Lib.hid hm55
    clear hm55
    refine wT [33, 34] ?_
    refine wZ (wp_cond_false rfl (wp_skip (then_normal (wp_seq ?_))))
    have HS58 := Mem.toGq rfl (Mem.only (M := [_, _, _, _, _, _, _]) HM57.out [4, 2, 0, 0, 0, 0, 0] rfl)
    have HM59 := Lib.hid HS58
    clear HS58
    refine wN [(0, 1), (1, 1), (2, 1), (3, 1), (4, 1), (5, 3)] (wT [0, 1, 2, 3, 4] ?_)
    refine wD2 5 [_, _, _, _] [_, _, _, _, _, _] Tryz.call56 (grem_d g c G xs D k x hh.out (fun z hz => hp.out.subset hz) (by have := hxl.out; omega) hx.out) HM59 [0, 2] fun W61 hm60 => ?_
    obtain ⟨ys, hm60a⟩ := Mem.ex hm60
    obtain ⟨⟨hhy', hpy'⟩, hm60q⟩ := Mem.pr hm60a
    clear hm60 hm60a
    have hhy := Lib.hid hhy'
    clear hhy'
    have hpy := Lib.hid hpy'
    clear hpy'
    have HM62 := Lib.hid hm60q
    clear hm60q
    refine wZ (wp_seq (wQ ?_))
    refine wp_ret (bodyPost_ret (results_tmp rfl _ _ _) rfl ?_)
    have hD2 := rem_perm (gv_srt hDo.out hG.srt) hxD hseq.out
    have h4 := (Mem.only (M := [_, _, _, _, _]) (Mem.pcOpen hD2 (Mem.only (M := [_, _, _, _, _]) HM62.out [1, 0, 3, 0, 0] rfl)) [2, 2, 1, 1, 1] rfl)
    rw [hgb.out, got_yes hgb.out]
    exact does_ret (Mem.toGv (G := (⟨G.self, G.part, G.epoch, G.dst, G.F, G.seq, G.ticks, G.ends, G.out.filter fun o => decide (o.seq ≠ m.seq)⟩ : Gv)) (rem_out hDo.out m.seq) (fun z hz => hDr.out z (List.mem_filter.1 hz).1) (Mem.toGh (G := (⟨G.self, G.part, G.epoch, G.dst, G.F, G.seq, G.ticks, G.ends, G.out.filter fun o => decide (o.seq ≠ m.seq)⟩ : Gv)) hhy.out ((hpy.out.trans (hp.out.trans hD2)).cons_inv) h4)) rfl rfl
   ·have g2 : Hid ((!decide (x.o.key = m.key)) = true) := Lib.hid (by rw [decide_eq_false hky]; rfl)
    have hgb : Hid (gotB G m = false) := Lib.hid (by rw [hgi.out, decide_eq_false hky]; rfl)
    clear hky
    refine wp_region_M (fun k => k ∈ ([] : List Nat)) [(0, 1), (1, 1), (2, 1), (3, 1), (4, 1), (5, 1), (6, 1), (7, 1), (8, 1), (9, 1), (10, 1), (11, 1), (12, 1), (13, 1), (14, 1), (15, 1), (16, 1), (17, 1), (18, 1), (19, 1), (20, 1), (21, 1), (22, 1), (23, 1), (24, 1), (25, 1), (26, 1), (27, 1), (28, 1), (29, 1), (30, 1), (31, 1), (32, 3), (33, 1), (34, 1)] (by kernel_rfl) (by kernel_rfl) HM33.out ?_
    intro W63 hm64
    have HM65 := Lib.hid hm64
    clear hm64
    have Cbx := Mem.cell HM65.out 2 rfl
    refine wT [0, 1, 2, 3, 4, 5, 6, 7] ?_
    clear Cbx
    refine wI elemPq 8 (rowAt_src (Mem.src HM65.out 0 rfl rowT_reads)) (bksP_at hx.out) fun eb66 eo67 hc68 => ?_
    refine wM 9 (.pointer (some ⟨x.b, 0, none⟩)) (hc68 0 _ rfl) Tryz.underlying124 ?_
    refine wT [10, 11, 12] ?_
    refine wM 13 (.string x.o.key) (Mem.pcCell HM65.out 1 rfl (hxD) 1 pcC_key) Tryz.underlying9 ?_
    refine wT [14] ?_
    refine wM 15 (.string m.key) (HM65.out.part1 3 rfl msC_key) Tryz.underlying9 ?_
    refine wR 16 (run_neX (s := x.o.key) (t := m.key) g2.out rfl rfl rfl) ?_
    have Cbx := Mem.cell HM65.out 2 rfl
    refine wT [17, 18, 19, 20, 21, 22, 23] ?_
    clear Cbx
    refine wK 24 ?_
    refine wK 25 ?_
    refine wT [26, 27, 28] ?_
    refine wK 29 ?_
    refine wT [30] ?_
    refine wK 31 ?_
    refine wK 32 ?_
    refine wT [33, 34] ?_
    refine wZ (wp_cond_true rfl (wp_seq (wQ ?_)))
    refine wp_ret (then_ret (bodyPost_ret (results_tmp rfl _ _ _) rfl ?_))
    rw [hgb.out, got_no hgb.out]
    exact does_ret (Mem.toGv hDo.out hDr.out (Mem.toGh hh.out hp.out (Mem.toGq rfl (Mem.only (M := [_, _, _, _, _, _]) HM65.out [2, 0, 2, 0, 1, 1] rfl)))) rfl rfl
set_option maxHeartbeats 4000000 in
set_option maxRecDepth 100000 in
theorem ggotA_d (g : Nat) (A : At) (G : Gv) (hG : GvOk G) (m : Ms) (sv : Value) (hm : Reads elemV A sv m.b.v) (lm : m.b.v.length ≤ 4398046510976) (rp cp : Option Addr) (rn rc cn cc : Nat) : Does Tryz.prog 23 #[.pointer (some ⟨g, 0, none⟩), msV m sv (.slice rp rn rc) (.slice cp cn cc)] [gvT g A G, A] (.bool (gotB G m)) [gvT g A (gotG G m), A] := by
 intro w H hp
 have HM0 := Lib.hid (mem_refl hp)
 clear hp
 obtain ⟨D, c, hDo', hDr', HM1'⟩ := Mem.gv HM0.out
 clear HM0
 have HM0 := Lib.hid HM1'
 clear HM1'
 have hDo := Lib.hid hDo'
 clear hDo'
 have hDr := Lib.hid hDr'
 clear hDr'
 obtain ⟨vp, vc, rfl⟩ := row_form (Mem.src HM0.out 3 rfl hm)
 obtain ⟨vn, hvn⟩ : ∃ z, m.b.v.length = z := ⟨_, rfl⟩
 rw [hvn] at hm ⊢
 go_enter Tryz.func23, Tryz.ntmps23
 refine wp_seq (wN [(0, 3), (1, 1)] ?_)
 refine wBh 0 HM0 fun b3 W2 HM4 => ?_
 refine wT [1] ?_
 refine wZ (wp_seq (wp_seq ?_))
 obtain ⟨z, hmn'⟩ := bool_letter (mineG G 6 m)
 have hmn := Lib.hid hmn'
 clear hmn'
 cases z
 ·have hgb := Lib.hid (got_mine hmn.out)
  obtain ⟨xs, hh', hp', HS5⟩ := Mem.gh (Mem.only (M := [_, _, _, _, _]) HM4.out [1, 0, 0, 0, 0] rfl)
  have hh := Lib.hid hh'
  clear hh'
  have hp := Lib.hid hp'
  clear hp'
  have hxl : Hid (xs.length ≤ 4) := Lib.hid (by rw [hp.out.length_eq, gv_len hDo.out]; exact hG.len)
  have HM6 := Lib.hid HS5
  clear HS5
  obtain ⟨p, q, HS7⟩ := Mem.gq (Mem.only (M := [_, _, _, _, _]) HM6.out [0, 0, 0, 0, 0] rfl)
  have HM8 := Lib.hid HS7
  clear HS7
  refine wN [(0, 1), (1, 1), (2, 1), (3, 1), (4, 1), (5, 3), (6, 1), (7, 1)] (wT [0, 1, 2, 3] ?_)
  refine wL 4 (msC (m) (.slice vp vn vc) (.slice rp rn rc) (.slice cp cn cc)) (HM8.out.part 2 rfl (msC_all)) Tryz.underlying52 ?_
  refine wD3 5 [_, _, _, _, _] [_, _, _, _, _, _] Tryz.call54 (gisans_d g c G (.slice p xs.length q) 6 m vp rp cp vn vc rn rc cn cc) HM8 [0] fun W10 hm9 => ?_
  rw [hmn.out]
  have HM11 := Lib.hid hm9
  clear hm9
  refine wT [6, 7] ?_
  refine wZ (wp_cond_true rfl (wp_seq (wQ ?_)))
  refine wp_ret (then_ret (bodyPost_ret (results_tmp rfl _ _ _) rfl ?_))
  rw [hgb.out, got_no hgb.out]
  exact does_ret (Mem.toGv hDo.out hDr.out (Mem.toGh hh.out hp.out (Mem.toGq rfl (Mem.only (M := [_, _, _, _, _]) HM11.out [0, 0, 1, 1, 1] rfl)))) rfl rfl
 ·skip
  obtain ⟨xs, hh', hp', HS12⟩ := Mem.gh (Mem.only (M := [_, _, _, _, _]) HM4.out [1, 0, 0, 0, 0] rfl)
  have hh := Lib.hid hh'
  clear hh'
  have hp := Lib.hid hp'
  clear hp'
  have hxl : Hid (xs.length ≤ 4) := Lib.hid (by rw [hp.out.length_eq, gv_len hDo.out]; exact hG.len)
  have HM13 := Lib.hid HS12
  clear HS12
  obtain ⟨p, q, HS14⟩ := Mem.gq (Mem.only (M := [_, _, _, _, _]) HM13.out [0, 0, 0, 0, 0] rfl)
  have HM15 := Lib.hid HS14
  clear HS14
  refine wN [(0, 1), (1, 1), (2, 1), (3, 1), (4, 1), (5, 3), (6, 1), (7, 1)] (wT [0, 1, 2, 3] ?_)
  refine wL 4 (msC (m) (.slice vp vn vc) (.slice rp rn rc) (.slice cp cn cc)) (HM15.out.part 2 rfl (msC_all)) Tryz.underlying52 ?_
  refine wD3 5 [_, _, _, _, _] [_, _, _, _, _, _] Tryz.call54 (gisans_d g c G (.slice p xs.length q) 6 m vp rp cp vn vc rn rc cn cc) HM15 [0] fun W17 hm16 => ?_
  rw [hmn.out]
  have HM18 := Lib.hid hm16
  clear hm16
  refine wT [6, 7] ?_
  refine wZ (wp_cond_false rfl (wp_skip (then_normal (wp_seq ?_))))
  rcases idxO_ways m.seq xs 0 with ⟨hi, hnx⟩ | ⟨k, x, hx', hsq, hi⟩
  ·have hgb := Lib.hid (got_none (G := G) (m := m) (by rw [← hDo.out]; intro o ho; obtain ⟨z, hz, rfl⟩ := List.mem_map.1 ho; exact hnx z (hp.out.symm.subset hz)))
   have hie := Lib.hid hi
   clear hnx hi
   refine wp_region_M (fun k => k ∈ ([] : List Nat)) [(0, 1), (1, 1), (2, 1), (3, 1), (4, 1), (5, 1), (6, 3), (7, 1)] (by kernel_rfl) (by kernel_rfl) HM18.out ?_
   intro W19 hm20
   have HM21 := Lib.hid hm20
   clear hm20
   have Cbx := Mem.cell HM21.out 0 rfl
   refine wT [0, 1, 2, 3, 4] ?_
   clear Cbx
   refine wM 5 (.int .i64 m.seq) (HM21.out.part1 2 rfl msC_seq) Tryz.underlying3 ?_
   refine wD2 6 [_, _, _, _] [_, _, _, _, _, _] Tryz.call55 (pindex_d _ p q xs D rowT_reads (fun z hz => hp.out.subset hz) (by have := hxl.out; omega) m.seq) HM21 [1, 3] fun W23 hm22 => ?_
   rw [hie.out]
   have HM24 := Lib.hid hm22
   clear hm22
   refine wT [7] ?_
   refine wZ (wp_seq (wp_seq ?_))
   skip
   ·have g1 : decide ((-1 : Int) < 0) = true := rfl
    refine wp_region_M (fun k => k ∈ ([] : List Nat)) [(0, 1), (1, 1), (2, 1), (3, 1), (4, 1), (5, 1), (6, 1), (7, 1), (8, 1), (9, 1), (10, 1), (11, 1), (12, 1), (13, 1), (14, 1), (15, 1), (16, 1), (17, 1), (18, 1), (19, 1), (20, 1), (21, 1), (22, 1), (23, 1), (24, 1), (25, 1), (26, 1), (27, 1), (28, 1), (29, 1), (30, 1), (31, 1), (32, 3), (33, 1), (34, 1)] (by kernel_rfl) (by kernel_rfl) HM24.out ?_
    intro W25 hm26
    have HM27 := Lib.hid hm26
    clear hm26
    have Cbx := Mem.cell HM27.out 2 rfl
    refine wT [0, 1, 2, 3, 4, 5, 6, 7] ?_
    clear Cbx
    refine wK 8 ?_
    refine wK 9 ?_
    refine wT [10, 11, 12] ?_
    refine wK 13 ?_
    refine wT [14] ?_
    refine wK 15 ?_
    refine wK 16 ?_
    have Cbx := Mem.cell HM27.out 2 rfl
    refine wT [17, 18, 19, 20, 21, 22, 23] ?_
    clear Cbx
    refine wK 24 ?_
    refine wK 25 ?_
    refine wT [26, 27, 28] ?_
    refine wK 29 ?_
    refine wT [30] ?_
    refine wK 31 ?_
    refine wK 32 ?_
    refine wT [33, 34] ?_
    refine wZ (wp_cond_true rfl (wp_seq (wQ ?_)))
    refine wp_ret (then_ret (bodyPost_ret (results_tmp rfl _ _ _) rfl ?_))
    rw [hgb.out, got_no hgb.out]
    exact does_ret (Mem.toGv hDo.out hDr.out (Mem.toGh hh.out hp.out (Mem.toGq rfl (Mem.only (M := [_, _, _, _, _]) HM27.out [2, 0, 2, 0, 1] rfl)))) rfl rfl
  ·rw [Nat.zero_add] at hi
   have hie := Lib.hid hi
   have hseq := Lib.hid hsq
   have hx := Lib.hid hx'
   have hxD : x ∈ D := hp.out.subset (List.mem_of_getElem? hx')
   have hgi := got_is hG hmn.out (o := x.o) (by rw [← hDo.out]; exact List.mem_map.2 ⟨x, hxD, rfl⟩) hsq
   replace hgi := Lib.hid hgi
   clear hi hsq hx'
   refine wp_region_M (fun k => k ∈ ([] : List Nat)) [(0, 1), (1, 1), (2, 1), (3, 1), (4, 1), (5, 1), (6, 3), (7, 1)] (by kernel_rfl) (by kernel_rfl) HM18.out ?_
   intro W28 hm29
   have HM30 := Lib.hid hm29
   clear hm29
   have Cbx := Mem.cell HM30.out 0 rfl
   refine wT [0, 1, 2, 3, 4] ?_
   clear Cbx
   refine wM 5 (.int .i64 m.seq) (HM30.out.part1 2 rfl msC_seq) Tryz.underlying3 ?_
   refine wD2 6 [_, _, _, _] [_, _, _, _, _, _] Tryz.call55 (pindex_d _ p q xs D rowT_reads (fun z hz => hp.out.subset hz) (by have := hxl.out; omega) m.seq) HM30 [1, 3] fun W32 hm31 => ?_
   rw [hie.out]
   have HM33 := Lib.hid hm31
   clear hm31
   refine wT [7] ?_
   refine wZ (wp_seq (wp_seq ?_))
   have g1 : decide ((k : Int) < 0) = false := decide_eq_false (by omega)
   by_cases hky : x.o.key = m.key
   obtain ⟨z, hsb'⟩ := bool_letter (sameB x.o.b m.b)
   have hsb := Lib.hid hsb'
   clear hsb'
   cases z
   ·have g2 : Hid ((!decide (x.o.key = m.key)) = false) := Lib.hid (by rw [decide_eq_true hky]; rfl)
    have hgb : Hid (gotB G m = false) := Lib.hid (by rw [hgi.out, hsb.out, Bool.and_false])
    clear hky
    refine wp_region_M (fun k => k ∈ ([] : List Nat)) [(0, 1), (1, 1), (2, 1), (3, 1), (4, 1), (5, 1), (6, 1), (7, 1), (8, 1), (9, 1), (10, 1), (11, 1), (12, 1), (13, 1), (14, 1), (15, 1), (16, 1), (17, 1), (18, 1), (19, 1), (20, 1), (21, 1), (22, 1), (23, 1), (24, 1), (25, 1), (26, 1), (27, 1), (28, 1), (29, 1), (30, 1), (31, 1), (32, 3), (33, 1), (34, 1)] (by kernel_rfl) (by kernel_rfl) HM33.out ?_
    intro W34 hm35
    have HM36 := Lib.hid hm35
    clear hm35
    have Cbx := Mem.cell HM36.out 2 rfl
    refine wT [0, 1, 2, 3, 4, 5, 6, 7] ?_
    clear Cbx
    refine wI elemPq 8 (rowAt_src (Mem.src HM36.out 0 rfl rowT_reads)) (bksP_at hx.out) fun eb37 eo38 hc39 => ?_
    refine wM 9 (.pointer (some ⟨x.b, 0, none⟩)) (hc39 0 _ rfl) Tryz.underlying124 ?_
    refine wT [10, 11, 12] ?_
    refine wM 13 (.string x.o.key) (Mem.pcCell HM36.out 1 rfl (hxD) 1 pcC_key) Tryz.underlying9 ?_
    refine wT [14] ?_
    refine wM 15 (.string m.key) (HM36.out.part1 3 rfl msC_key) Tryz.underlying9 ?_
    refine wR 16 (run_neX (s := x.o.key) (t := m.key) g2.out rfl rfl rfl) ?_
    have Cbx := Mem.cell HM36.out 2 rfl
    refine wT [17, 18, 19, 20, 21, 22, 23] ?_
    clear Cbx
    refine wI elemPq 24 (rowAt_src (Mem.src HM36.out 0 rfl rowT_reads)) (bksP_at hx.out) fun eb40 eo41 hc42 => ?_
    refine wM 25 (.pointer (some ⟨x.b, 0, none⟩)) (hc42 0 _ rfl) Tryz.underlying124 ?_
    refine wT [26, 27, 28] ?_
    refine wL 29 (bgC x.o.b.k x.sv) (fun k u h => Mem.pcCell HM36.out 1 rfl hxD (2 + k) (pcC_bag k u h)) Tryz.underlying41 ?_
    refine wT [30] ?_
    refine wL 31 (bgC m.b.k (.slice vp vn vc)) (HM36.out.part 3 rfl (msC_bag)) Tryz.underlying41 ?_
    refine wD2 32 [_, _, _, _, _] [_, _, _, _, _, _] Tryz.call44 (bsame_d A _ x.o.b (hDr.out x hxD).1 (Nat.le_trans (hDr.out x hxD).2 (by decide)) _ m.b hm lm) HM36 [5] fun W44 hm43 => ?_
    rw [hsb.out]
    have HM45 := Lib.hid hm43
    clear hm43
    refine wT [33, 34] ?_
    refine wZ (wp_cond_true rfl (wp_seq (wQ ?_)))
    refine wp_ret (then_ret (bodyPost_ret (results_tmp rfl _ _ _) rfl ?_))
    rw [hgb.out, got_no hgb.out]
    exact does_ret (Mem.toGv hDo.out hDr.out (Mem.toGh hh.out hp.out (Mem.toGq rfl (Mem.only (M := [_, _, _, _, _]) HM45.out [3, 1, 3, 1, 0] rfl)))) rfl rfl
   ·have g2 : Hid ((!decide (x.o.key = m.key)) = false) := Lib.hid (by rw [decide_eq_true hky]; rfl)
    have hgb : Hid (gotB G m = true) := Lib.hid (by rw [hgi.out, hsb.out, decide_eq_true hky]; rfl)
    clear hky
    refine wp_region_M (fun k => k ∈ ([] : List Nat)) [(0, 1), (1, 1), (2, 1), (3, 1), (4, 1), (5, 1), (6, 1), (7, 1), (8, 1), (9, 1), (10, 1), (11, 1), (12, 1), (13, 1), (14, 1), (15, 1), (16, 1), (17, 1), (18, 1), (19, 1), (20, 1), (21, 1), (22, 1), (23, 1), (24, 1), (25, 1), (26, 1), (27, 1), (28, 1), (29, 1), (30, 1), (31, 1), (32, 3), (33, 1), (34, 1)] (by kernel_rfl) (by kernel_rfl) HM33.out ?_
    intro W46 hm47
    have HM48 := Lib.hid hm47
    clear hm47
    have Cbx := Mem.cell HM48.out 2 rfl
    refine wT [0, 1, 2, 3, 4, 5, 6, 7] ?_
    clear Cbx
    refine wI elemPq 8 (rowAt_src (Mem.src HM48.out 0 rfl rowT_reads)) (bksP_at hx.out) fun eb49 eo50 hc51 => ?_
    refine wM 9 (.pointer (some ⟨x.b, 0, none⟩)) (hc51 0 _ rfl) Tryz.underlying124 ?_
    refine wT [10, 11, 12] ?_
    refine wM 13 (.string x.o.key) (Mem.pcCell HM48.out 1 rfl (hxD) 1 pcC_key) Tryz.underlying9 ?_
    refine wT [14] ?_
    refine wM 15 (.string m.key) (HM48.out.part1 3 rfl msC_key) Tryz.underlying9 ?_
    refine wR 16 (run_neX (s := x.o.key) (t := m.key) g2.out rfl rfl rfl) ?_
    have Cbx := Mem.cell HM48.out 2 rfl
    refine wT [17, 18, 19, 20, 21, 22, 23] ?_
    clear Cbx
    refine wI elemPq 24 (rowAt_src (Mem.src HM48.out 0 rfl rowT_reads)) (bksP_at hx.out) fun eb52 eo53 hc54 => ?_
    refine wM 25 (.pointer (some ⟨x.b, 0, none⟩)) (hc54 0 _ rfl) Tryz.underlying124 ?_
    refine wT [26, 27, 28] ?_
    refine wL 29 (bgC x.o.b.k x.sv) (fun k u h => Mem.pcCell HM48.out 1 rfl hxD (2 + k) (pcC_bag k u h)) Tryz.underlying41 ?_
    refine wT [30] ?_
    refine wL 31 (bgC m.b.k (.slice vp vn vc)) (HM48.out.part 3 rfl (msC_bag)) Tryz.underlying41 ?_
    refine wD2 32 [_, _, _, _, _] [_, _, _, _, _, _] Tryz.call44 (bsame_d A _ x.o.b (hDr.out x hxD).1 (Nat.le_trans (hDr.out x hxD).2 (by decide)) _ m.b hm lm) HM48 [5] fun W56 hm55 => ?_
    rw [hsb.out]
    have HM57 := Lib.hid hm55
    clear hm55
    refine wT [33, 34] ?_
    refine wZ (wp_cond_false rfl (wp_skip (then_normal (wp_seq ?_))))
    have HS58 := Mem.toGq rfl (Mem.only (M := [_, _, _, _, _, _]) HM57.out [3, 1, 0, 0, 0, 0] rfl)
    have HM59 := Lib.hid HS58
    clear HS58
    refine wN [(0, 1), (1, 1), (2, 1), (3, 1), (4, 1), (5, 3)] (wT [0, 1, 2, 3, 4] ?_)
    refine wD2 5 [_, _, _] [_, _, _, _, _] Tryz.call56 (grem_d g c G xs D k x hh.out (fun z hz => hp.out.subset hz) (by have := hxl.out; omega) hx.out) HM59 [0, 1] fun W61 hm60 => ?_
    obtain ⟨ys, hm60a⟩ := Mem.ex hm60
    obtain ⟨⟨hhy', hpy'⟩, hm60q⟩ := Mem.pr hm60a
    clear hm60 hm60a
    have hhy := Lib.hid hhy'
    clear hhy'
    have hpy := Lib.hid hpy'
    clear hpy'
    have HM62 := Lib.hid hm60q
    clear hm60q
    refine wZ (wp_seq (wQ ?_))
    refine wp_ret (bodyPost_ret (results_tmp rfl _ _ _) rfl ?_)
    have hD2 := rem_perm (gv_srt hDo.out hG.srt) hxD hseq.out
    have h4 := (Mem.only (M := [_, _, _, _]) (Mem.pcOpen hD2 (Mem.only (M := [_, _, _, _]) HM62.out [1, 0, 2, 0] rfl)) [2, 2, 1, 1] rfl)
    rw [hgb.out, got_yes hgb.out]
    exact does_ret (Mem.toGv (G := (⟨G.self, G.part, G.epoch, G.dst, G.F, G.seq, G.ticks, G.ends, G.out.filter fun o => decide (o.seq ≠ m.seq)⟩ : Gv)) (rem_out hDo.out m.seq) (fun z hz => hDr.out z (List.mem_filter.1 hz).1) (Mem.toGh (G := (⟨G.self, G.part, G.epoch, G.dst, G.F, G.seq, G.ticks, G.ends, G.out.filter fun o => decide (o.seq ≠ m.seq)⟩ : Gv)) hhy.out ((hpy.out.trans (hp.out.trans hD2)).cons_inv) h4)) rfl rfl
   ·have g2 : Hid ((!decide (x.o.key = m.key)) = true) := Lib.hid (by rw [decide_eq_false hky]; rfl)
    have hgb : Hid (gotB G m = false) := Lib.hid (by rw [hgi.out, decide_eq_false hky]; rfl)
    clear hky
    refine wp_region_M (fun k => k ∈ ([] : List Nat)) [(0, 1), (1, 1), (2, 1), (3, 1), (4, 1), (5, 1), (6, 1), (7, 1), (8, 1), (9, 1), (10, 1), (11, 1), (12, 1), (13, 1), (14, 1), (15, 1), (16, 1), (17, 1), (18, 1), (19, 1), (20, 1), (21, 1), (22, 1), (23, 1), (24, 1), (25, 1), (26, 1), (27, 1), (28, 1), (29, 1), (30, 1), (31, 1), (32, 3), (33, 1), (34, 1)] (by kernel_rfl) (by kernel_rfl) HM33.out ?_
    intro W63 hm64
    have HM65 := Lib.hid hm64
    clear hm64
    have Cbx := Mem.cell HM65.out 2 rfl
    refine wT [0, 1, 2, 3, 4, 5, 6, 7] ?_
    clear Cbx
    refine wI elemPq 8 (rowAt_src (Mem.src HM65.out 0 rfl rowT_reads)) (bksP_at hx.out) fun eb66 eo67 hc68 => ?_
    refine wM 9 (.pointer (some ⟨x.b, 0, none⟩)) (hc68 0 _ rfl) Tryz.underlying124 ?_
    refine wT [10, 11, 12] ?_
    refine wM 13 (.string x.o.key) (Mem.pcCell HM65.out 1 rfl (hxD) 1 pcC_key) Tryz.underlying9 ?_
    refine wT [14] ?_
    refine wM 15 (.string m.key) (HM65.out.part1 3 rfl msC_key) Tryz.underlying9 ?_
    refine wR 16 (run_neX (s := x.o.key) (t := m.key) g2.out rfl rfl rfl) ?_
    have Cbx := Mem.cell HM65.out 2 rfl
    refine wT [17, 18, 19, 20, 21, 22, 23] ?_
    clear Cbx
    refine wK 24 ?_
    refine wK 25 ?_
    refine wT [26, 27, 28] ?_
    refine wK 29 ?_
    refine wT [30] ?_
    refine wK 31 ?_
    refine wK 32 ?_
    refine wT [33, 34] ?_
    refine wZ (wp_cond_true rfl (wp_seq (wQ ?_)))
    refine wp_ret (then_ret (bodyPost_ret (results_tmp rfl _ _ _) rfl ?_))
    rw [hgb.out, got_no hgb.out]
    exact does_ret (Mem.toGv hDo.out hDr.out (Mem.toGh hh.out hp.out (Mem.toGq rfl (Mem.only (M := [_, _, _, _, _]) HM65.out [2, 0, 2, 0, 1] rfl)))) rfl rfl
set_option maxHeartbeats 4000000 in
set_option maxRecDepth 100000 in
theorem gended_d (g dv dl : Nat) (A : At) (G : Gv) (hG : GvOk G) (S : Vt) (hS : VtOk S) (hl : S.b.length ≤ 3000) (m : Ms) (vp rp cp : Option Addr) (vn vc rn rc cn cc : Nat) : Does Tryz.prog 25 #[.pointer (some ⟨g, 0, none⟩), msV m (.slice vp vn vc) (.slice rp rn rc) (.slice cp cn cc), .pointer (some ⟨dv, 0, none⟩)] [gvT g A G, vtT dv dl S] (.bool (endedG G m S)) [gvT g A G, vtT dv dl S] := by
 intro w H hp
 have HM0 := Lib.hid (mem_refl hp)
 clear hp
 obtain ⟨D, c, hDo', hDr', HM1'⟩ := Mem.gv HM0.out
 clear HM0
 have HM0 := Lib.hid HM1'
 clear HM1'
 have hDo := Lib.hid hDo'
 clear hDo'
 have hDr := Lib.hid hDr'
 clear hDr'
 go_enter Tryz.func25, Tryz.ntmps25
 refine wp_seq (wN [(0, 3), (1, 1)] ?_)
 refine wBh 0 HM0 fun b3 W2 HM4 => ?_
 refine wT [1] ?_
 refine wZ (wp_seq ?_)
 obtain ⟨z, hmn'⟩ := bool_letter (mineG G 8 m)
 obtain ⟨y, hov'⟩ := bool_letter (overG G S)
 obtain ⟨e, hen'⟩ := bool_letter G.ends
 have hee := Lib.hid (show endedG G m S = (z && (e && y)) by unfold endedG; rw [hmn', hov', hen'])
 have hmn := Lib.hid hmn'
 have hov := Lib.hid hov'
 clear hmn' hov'
 cases z
 rotate_left
 cases e
 rotate_left
 ·skip
  obtain ⟨xs, hh', hp', HS5⟩ := Mem.gh (Mem.only (M := [_, _, _, _, _]) HM4.out [1, 0, 0, 0, 0] rfl)
  have hh := Lib.hid hh'
  clear hh'
  have hp := Lib.hid hp'
  clear hp'
  have hxl : Hid (G.out.length = xs.length) := Lib.hid (by rw [hp.out.length_eq, gv_len hDo.out])
  have HM6 := Lib.hid HS5
  clear HS5
  obtain ⟨p, q, HS7⟩ := Mem.gq (Mem.only (M := [_, _, _, _, _]) HM6.out [0, 0, 0, 0, 0] rfl)
  have HM8 := Lib.hid HS7
  clear HS7
  refine wN [(0, 1), (1, 1), (2, 1), (3, 1), (4, 1), (5, 3), (6, 1), (7, 1), (8, 1), (9, 1), (10, 1), (11, 1), (12, 1), (13, 1), (14, 1), (15, 1), (16, 3), (17, 1), (18, 1)] (wT [0, 1, 2, 3] ?_)
  refine wL 4 (msC (m) (.slice vp vn vc) (.slice rp rn rc) (.slice cp cn cc)) (HM8.out.part 2 rfl (msC_all)) Tryz.underlying52 ?_
  refine wD3 5 [_, _, _, _, _] [_, _, _, _, _, _] Tryz.call54 (gisans_d g c G (.slice p xs.length q) 8 m vp rp cp vn vc rn rc cn cc) HM8 [0] fun W10 hm9 => ?_
  rw [hmn.out]
  have HM11 := Lib.hid hm9
  clear hm9
  have Cbx := Mem.cell HM11.out 0 rfl
  refine wT [6, 7, 8, 9, 10, 11, 12, 13, 14, 15] ?_
  clear Cbx
  refine wD2 16 [_, _, _] [_, _, _, _, _, _] Tryz.call59 (gisdone_d g c dv dl G p xs.length q hxl.out hG.fd S hS hl) HM11 [0, 2, 3] fun W13 hm12 => ?_
  rw [hov.out]
  have HM14 := Lib.hid hm12
  clear hm12
  refine wT [17, 18] ?_
  refine wZ (wp_ret (bodyPost_ret (results_tmp rfl _ _ _) rfl ?_))
  rw [hee.out]
  exact does_ret (Mem.toGv hDo.out hDr.out (Mem.toGh hh.out hp.out (Mem.toGq rfl (Mem.only (M := [_, _, _, _, _]) HM14.out [0, 2, 0, 2, 0] rfl)))) rfl rfl
 ·skip
  obtain ⟨xs, hh', hp', HS15⟩ := Mem.gh (Mem.only (M := [_, _, _, _, _]) HM4.out [1, 0, 0, 0, 0] rfl)
  have hh := Lib.hid hh'
  clear hh'
  have hp := Lib.hid hp'
  clear hp'
  have hxl : Hid (G.out.length = xs.length) := Lib.hid (by rw [hp.out.length_eq, gv_len hDo.out])
  have HM16 := Lib.hid HS15
  clear HS15
  obtain ⟨p, q, HS17⟩ := Mem.gq (Mem.only (M := [_, _, _, _, _]) HM16.out [0, 0, 0, 0, 0] rfl)
  have HM18 := Lib.hid HS17
  clear HS17
  refine wN [(0, 1), (1, 1), (2, 1), (3, 1), (4, 1), (5, 3), (6, 1), (7, 1), (8, 1), (9, 1), (10, 1), (11, 1), (12, 1), (13, 1), (14, 1), (15, 1), (16, 3), (17, 1), (18, 1)] (wT [0, 1, 2, 3] ?_)
  refine wL 4 (msC (m) (.slice vp vn vc) (.slice rp rn rc) (.slice cp cn cc)) (HM18.out.part 2 rfl (msC_all)) Tryz.underlying52 ?_
  refine wD3 5 [_, _, _, _, _] [_, _, _, _, _, _] Tryz.call54 (gisans_d g c G (.slice p xs.length q) 8 m vp rp cp vn vc rn rc cn cc) HM18 [0] fun W20 hm19 => ?_
  rw [hmn.out]
  have HM21 := Lib.hid hm19
  clear hm19
  have Cbx := Mem.cell HM21.out 0 rfl
  refine wT [6, 7, 8, 9, 10, 11, 12, 13, 14, 15] ?_
  clear Cbx
  refine wK 16 ?_
  refine wT [17, 18] ?_
  refine wZ (wp_ret (bodyPost_ret (results_tmp rfl _ _ _) rfl ?_))
  rw [hee.out]
  exact does_ret (Mem.toGv hDo.out hDr.out (Mem.toGh hh.out hp.out (Mem.toGq rfl (Mem.only (M := [_, _, _, _, _]) HM21.out [0, 0, 1, 1, 1] rfl)))) rfl rfl
 ·skip
  obtain ⟨xs, hh', hp', HS22⟩ := Mem.gh (Mem.only (M := [_, _, _, _, _]) HM4.out [1, 0, 0, 0, 0] rfl)
  have hh := Lib.hid hh'
  clear hh'
  have hp := Lib.hid hp'
  clear hp'
  have hxl : Hid (G.out.length = xs.length) := Lib.hid (by rw [hp.out.length_eq, gv_len hDo.out])
  have HM23 := Lib.hid HS22
  clear HS22
  obtain ⟨p, q, HS24⟩ := Mem.gq (Mem.only (M := [_, _, _, _, _]) HM23.out [0, 0, 0, 0, 0] rfl)
  have HM25 := Lib.hid HS24
  clear HS24
  refine wN [(0, 1), (1, 1), (2, 1), (3, 1), (4, 1), (5, 3), (6, 1), (7, 1), (8, 1), (9, 1), (10, 1), (11, 1), (12, 1), (13, 1), (14, 1), (15, 1), (16, 3), (17, 1), (18, 1)] (wT [0, 1, 2, 3] ?_)
  refine wL 4 (msC (m) (.slice vp vn vc) (.slice rp rn rc) (.slice cp cn cc)) (HM25.out.part 2 rfl (msC_all)) Tryz.underlying52 ?_
  refine wD3 5 [_, _, _, _, _] [_, _, _, _, _, _] Tryz.call54 (gisans_d g c G (.slice p xs.length q) 8 m vp rp cp vn vc rn rc cn cc) HM25 [0] fun W27 hm26 => ?_
  rw [hmn.out]
  have HM28 := Lib.hid hm26
  clear hm26
  have Cbx := Mem.cell HM28.out 0 rfl
  refine wT [6, 7, 8, 9, 10, 11, 12, 13, 14, 15] ?_
  clear Cbx
  refine wK 16 ?_
  refine wT [17, 18] ?_
  refine wZ (wp_ret (bodyPost_ret (results_tmp rfl _ _ _) rfl ?_))
  rw [hee.out]
  exact does_ret (Mem.toGv hDo.out hDr.out (Mem.toGh hh.out hp.out (Mem.toGq rfl (Mem.only (M := [_, _, _, _, _]) HM28.out [0, 0, 1, 1, 1] rfl)))) rfl rfl
end Go.Proofs.YtcchkkdbagpgjaaGreat
