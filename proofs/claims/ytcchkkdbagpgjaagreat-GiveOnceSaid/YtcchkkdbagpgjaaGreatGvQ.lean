/- The landed giver: what is out, in order; by its Seq. -/
import Derived.Test.YtcchkkdbagpgjaaGreatGvJ
import Derived.Test.YtcchkkdbagpgjaaGreatPA
namespace Go.Proofs.YtcchkkdbagpgjaaGreat
open Go Go.RowKit Go.BigFrame
theorem run_eqnilQ {a : Act} {o : Oper} {x y : Operand} {p : Option Addr} {n c : Nat} {W : World} {tt : TypeId} (ho : o.op = .binOp .eql 109 x y tt) (hx : a.eval x = .slice p n c) (hy : a.eval y = .slice none 0 0) : (execOp a.eval o).run Tryz.prog W = .ok (.value (.bool p.isNone)) W := by
 have he := Go.Lib.run_eql_slice_nil (P := Tryz.prog) W 109 124 p n c 0 0 Tryz.underlying109
 have hg : (eqGuard .eql 109 x y (.slice p n c) (.slice none 0 0)).run Tryz.prog W = .ok () W := by
  unfold eqGuard
  simp [go_sem]
 unfold execOp
 simp only [ho, hx, hy, Sem.run_bind, hg, he, Result.andThen_ok, Sem.run_pure]
theorem src_nilQ {W : World} {n c : Nat} {l : List (Option Nat)} (h : SrcE elemPq W (.slice none n c) l) : l = [] := by
 rcases h.1 with ⟨h1, _⟩ | ⟨b, off, cap, he, _⟩
 ·exact h1
 ·cases he
set_option maxHeartbeats 4000000 in
set_option maxRecDepth 100000 in
theorem pclone_d (R : At) (va : Value) (l : List (Option Nat)) (ha : Reads elemPq R va l) (la : l.length ≤ 1000) : DoesU Tryz.prog 116 #[va] [R] (fun u => [rowT elemPq u l, R]) := by
 intro w H hp
 have HM0 := Lib.hid (mem_refl hp)
 clear hp
 obtain ⟨pa, ca, rfl⟩ := row_form (Mem.src HM0.out 0 rfl ha)
 go_enter Tryz.func116, Tryz.ntmps116
 refine wp_seq (wQ ?_)
 refine wp_seq (wp_seq ?_)
 rcases pa with _ | pq
 ·have hnil : l = [] := src_nilQ (Mem.src HM0.out 0 rfl ha)
  subst hnil
  refine wN [(0, 1), (1, 1)] (wT [0] ?_)
  refine wR 1 (run_eqnilQ rfl rfl rfl) ?_
  refine wZ (wp_cond_true rfl (wp_seq (wQ ?_)))
  refine wp_ret (then_ret (bodyPost_ret (results_tmp rfl _ _ _) rfl ?_))
  exact doesU_ret (post := fun u => [rowT elemPq u [], R]) (Mem.nilRow elemPq (Mem.only (M := [_]) HM0.out [0] rfl)) rfl
 ·skip
  refine wN [(0, 1), (1, 1)] (wT [0] ?_)
  refine wR 1 (run_eqnilQ rfl rfl rfl) ?_
  refine wZ (wp_cond_false rfl (wp_skip (then_normal (wp_seq (wN [(0, 3), (1, 1), (2, 3), (3, 1)] ?_)))))
  refine wpS_buildN elemPq (i := 0) (dd := 5) (n := 0) (xs := []) (cs := #[]) rfl (by rfl) (fun _ => by kernel_rfl) rfl rfl HM0.out covS_nil rfl ?_
  rintro b3 W4 hm5 -
  have HM6 := Lib.hid hm5
  clear hm5
  simp only [Act.put, List.setIfInBounds_toArray, List.set_cons_succ, List.set_cons_zero]
  refine wT [1] ?_
  refine wpS_append (E := elemPq) (i := 2) (d := some 7) (L2 := [_]) rfl (by rfl) rfl HM6.out 0 rfl rfl (HM6.out.src 1 rfl ha) rfl (by rw [List.length_nil]; show _ * 8 ≤ _; omega) rfl covS_nil rfl ?_
  rintro v9 W10 hm11 -
  rw [List.nil_append] at hm11
  obtain ⟨vp, vc, rfl⟩ := row_form (Mem.src hm11 0 rfl rowT_reads)
  have HM12 := Lib.hid hm11
  clear hm11
  simp only [Act.put, List.setIfInBounds_toArray, List.set_cons_succ, List.set_cons_zero]
  refine wT [3] ?_
  refine wZ (wp_ret (bodyPost_ret (results_tmp rfl _ _ _) rfl ?_))
  exact doesU_ret (post := fun u => [rowT elemPq u l, R]) (Mem.only (M := [_, _]) HM12.out [0, 0] rfl) rfl
def ordT (u : Value) (D : List Pz) : At := exT fun s : Option Addr × Nat => [prT (u = .slice s.1 D.length s.2), rowT elemPr (.slice s.1 D.length s.2) (bksR D)]
theorem Mem.ord {L : List At} {H0 : Nat → Prop} {w W : World} {u : Value} {D : List Pz} (h : Mem (ordT u D :: L) H0 w W) : ∃ p c, u = .slice p D.length c ∧ Mem (rowT elemPr (.slice p D.length c) (bksR D) :: L) H0 w W := by
 obtain ⟨s, h⟩ := Mem.ex h
 obtain ⟨hu, h⟩ := Mem.pr h
 exact ⟨s.1, s.2, hu, h⟩
theorem Mem.toOrd {L : List At} {H0 : Nat → Prop} {w W : World} {D : List Pz} {p : Option Addr} {n c : Nat} (hn : D.length = n) (h : Mem (rowT elemPr (.slice p n c) (bksR D) :: L) H0 w W) : Mem (ordT (.slice p n c) D :: L) H0 w W := by
 subst hn
 exact Mem.addEx (p, c) (Mem.addPr rfl h)
theorem takeP_snoc {α : Type} {l : List α} {k : Nat} {x : α} (h : l[k]? = some x) : l.take k ++ [x] = l.take (k + 1) := by rw [List.take_add_one, h]; rfl
theorem dropP_cons {α : Type} {l : List α} {k : Nat} {x : α} (h : l[k]? = some x) : l.drop k = x :: l.drop (k + 1) := by
 obtain ⟨h1, rfl⟩ := List.getElem?_eq_some_iff.1 h
 exact List.drop_eq_getElem_cons h1
set_option maxHeartbeats 4000000 in
set_option maxRecDepth 100000 in
theorem pord_d (R : At) (va : Value) (xs D : List Pz) (hR : Reads elemPq R va (bksP xs)) (hh' : IsHeap lessP xs.length xs) (hp' : xs.Perm D) (hsd' : D.Pairwise fun a b => a.o.seq < b.o.seq) (hl : D.length ≤ 100) : DoesU Tryz.prog 71 #[va] [R, pcsT D] (fun u => [ordT u D, R, pcsT D]) := by
 intro w H hp
 have HM0 := Lib.hid (mem_refl hp)
 clear hp
 obtain ⟨p0, c0, rfl⟩ := row_form (Mem.src HM0.out 0 rfl hR)
 have hxl : xs.length = D.length := hp'.length_eq
 have hh := Lib.hid hh'
 clear hh'
 have hp := Lib.hid hp'
 clear hp'
 have hsd := Lib.hid hsd'
 clear hsd'
 go_enter Tryz.func71, Tryz.ntmps71
 refine wp_seq (wQ ?_)
 refine wp_seq (wN [(0, 1), (1, 3), (2, 3), (3, 3)] (wT [0] ?_))
 refine wU1 1 [_] Tryz.call116 (pclone_d R _ (bksP xs) hR (by rw [bksP_len, hxl]; omega)) HM0 [0] fun u3 W2 hm1 => ?_
 obtain ⟨pc, cc, rfl⟩ := row_form (Mem.src hm1 0 rfl rowT_reads)
 have HM4 := Lib.hid hm1
 clear hm1
 refine wpS_alloc (i := 2) (dd := 3) (z := .slice none 0 0) (cs := #[.slice none 0 0]) rfl (by rfl) rfl (by kernel_rfl) rfl HM4.out covS_nil rfl ?_
 rintro b7 W6 hm5 -
 have HM8 := Lib.hid hm5
 clear hm5
 simp only [Act.put, List.setIfInBounds_toArray, List.set_cons_succ, List.set_cons_zero]
 refine wYh 3 _ [_, _, _] [.slice pc (bksP xs).length cc] HM8 0 fun W10 HM11 => ?_
 refine wZ (wp_seq ?_)
 have HS12 := Mem.toRh hh.out hp.out (Mem.toRq (bksP_len _).symm (Mem.only (M := [_, _, _, _]) HM11.out [0, 0, 0, 0] rfl))
 have HM13 := Lib.hid HS12
 clear HS12
 have HS14 := Mem.nilRow elemPr (Mem.only (M := [_, _, _]) HM13.out [0, 0, 0] rfl)
 have HM15 := Lib.hid HS14
 clear HS14
 refine wQ ?_
 refine wp_seq (wp_block ?_)
 refine wp_loop_F [4, 7, 8, 9, 10, 11, 12, 13, 14, 15] (fun n vs W' => ∃ (k : Nat) (pa : Option Addr) (ca : Nat), n = D.length - k ∧ vs 4 = .slice pa k ca ∧ k ≤ D.length ∧ Mem [rhT b7 (D.drop k), rowT elemPr (.slice pa k ca) (bksR (D.take k)), R, pcsT D] H w W') (n0 := D.length) ?_ ?_
 ·exact ⟨0, none, 0, rfl, rfl, Nat.zero_le _, (Mem.only (M := [_, _, _, _]) HM15.out [1, 0, 0, 0] rfl)⟩
 rintro n vs W' ⟨k, pa, ca, rfl, e4, hk, hm⟩
 simp only [putAll, List.map_cons, List.map_nil, Act.put, List.setIfInBounds_toArray, List.set_cons_succ, List.set_cons_zero]
 rw [e4]
 clear e4
 have HM16 := Lib.hid hm
 clear hm
 refine wp_seq (wp_seq ?_)
 rcases Nat.lt_or_ge k D.length with hk1 | hge
 ·obtain ⟨x, hx'⟩ : ∃ y, D[k]? = some y := ⟨_, List.getElem?_eq_getElem (hk1)⟩
  have hx := Lib.hid hx'
  clear hx'
  have hdr := Lib.hid (dropP_cons hx.out)
  obtain ⟨ys, hhy', hpy', HS17⟩ := Mem.rh (Mem.only (M := [_, _, _, _]) HM16.out [0, 0, 0, 0] rfl)
  have hhy := Lib.hid hhy'
  clear hhy'
  have hpy := Lib.hid hpy'
  clear hpy'
  have HM18 := Lib.hid HS17
  clear HS17
  obtain ⟨py, my, HS19⟩ := Mem.rq (Mem.only (M := [_, _, _, _]) HM18.out [0, 0, 0, 0] rfl)
  have HM20 := Lib.hid HS19
  clear HS19
  have hyl : Hid (ys.length = D.length - k) := Lib.hid (by rw [hpy.out.length_eq, List.length_drop])
  have g1 : decide ((0 : Int) < ((ys.length : Nat) : Int)) = true := decide_eq_true (by have := hyl.out; omega)
  have g2 : decide (0 < ys.length) = true := decide_eq_true (by have := hyl.out; omega)
  have Cb3 := Mem.cell HM20.out 0 rfl
  refine wQ ?_
  clear Cb3
  refine wp_cond_true rfl (wp_skip (then_normal (wp_block ?_)))
  have HS21 := Mem.toRh hhy.out hpy.out (Mem.toRq rfl (Mem.only (M := [_, _, _, _, _]) HM20.out [0, 0, 0, 0, 0] rfl))
  have HM22 := Lib.hid HS21
  clear HS21
  rw [hdr.out] at HM22
  refine wN [(0, 1), (1, 1), (2, 3), (3, 3), (4, 3), (5, 3), (6, 1)] (wT [0, 1] ?_)
  refine wD1h 2 [_, _] [_, _, _, _] Tryz.call117 (rpop_d b7 (D.drop (k + 1)) D x (by rw [← hdr.out]; exact hsd.out.sublist (List.drop_sublist _ _)) (fun z hz => List.mem_of_mem_drop (by rw [hdr.out]; exact hz)) (by rw [List.length_drop]; omega)) HM22 [0, 2] fun W24 HM25 => ?_
  refine wpS_still (i := 3) (d := some 13) (v := .pointer (some ⟨x.b, 0, none⟩)) rfl (by rfl) (run_asP rfl rfl) rfl ?_
  simp only [Act.put, List.setIfInBounds_toArray, List.set_cons_succ, List.set_cons_zero]
  refine wpS_build1 elemPr (i := 4) (dd := 14) (y := x.b) rfl (by rfl) rfl rfl rfl (by decide) HM25.out covS_nil rfl ?_
  rintro b28 W29 hm30 -
  have HM31 := Lib.hid hm30
  clear hm30
  simp only [Act.put, List.setIfInBounds_toArray, List.set_cons_succ, List.set_cons_zero]
  refine wpS_append (E := elemPr) (i := 5) (d := some 15) (L2 := [_, _, _, _]) rfl (by rfl) rfl HM31.out 3 rfl rfl (HM31.out.src 0 rfl rowT_reads) rfl (by rw [bksR_len]; show (_ + 1) * 8 ≤ 140737488355328; rw [List.length_take]; omega) rfl covS_nil rfl ?_
  rintro u34 W35 hm36 -
  have HM37 := Lib.hid hm36
  clear hm36
  simp only [Act.put, List.setIfInBounds_toArray, List.set_cons_succ, List.set_cons_zero]
  rw [bksR_snoc, takeP_snoc hx.out] at HM37
  obtain ⟨up, uc, hup⟩ := row_form (Mem.src HM37.out 0 rfl rowT_reads)
  rw [bksR_len, List.length_take, Nat.min_eq_left hk1] at hup
  subst hup
  refine wT [6] ?_
  refine wpS_nil (block_normal (then_normal ?_))
  refine ⟨by kernel_rfl, ?_⟩
  exact ⟨D.length - (k + 1), by omega, k + 1, up, uc, rfl, rfl, hk1, (Mem.only (M := [_, _, _, _]) HM37.out [2, 0, 2, 1] rfl)⟩
 ·skip
  obtain ⟨ys, hhy', hpy', HS38⟩ := Mem.rh (Mem.only (M := [_, _, _, _]) HM16.out [0, 0, 0, 0] rfl)
  have hhy := Lib.hid hhy'
  clear hhy'
  have hpy := Lib.hid hpy'
  clear hpy'
  have HM39 := Lib.hid HS38
  clear HS38
  obtain ⟨py, my, HS40⟩ := Mem.rq (Mem.only (M := [_, _, _, _]) HM39.out [0, 0, 0, 0] rfl)
  have HM41 := Lib.hid HS40
  clear HS40
  have hyl : Hid (ys.length = D.length - k) := Lib.hid (by rw [hpy.out.length_eq, List.length_drop])
  have g1 : decide ((0 : Int) < ((ys.length : Nat) : Int)) = false := decide_eq_false (by have := hyl.out; omega)
  have g2 : decide (0 < ys.length) = false := decide_eq_false (by have := hyl.out; omega)
  have Cb3 := Mem.cell HM41.out 0 rfl
  refine wQ ?_
  clear Cb3
  refine wp_cond_false rfl (wp_exit ?_)
  refine then_exit (then_exit (block_exit ?_))
  refine then_normal (wp_seq (wQ ?_))
  refine wp_ret (bodyPost_ret (results_tmp rfl _ _ _) rfl ?_)
  obtain rfl : k = D.length := by omega
  have hq := (Mem.only (M := [_, _, _]) HM41.out [2, 2, 2] rfl)
  rw [List.take_length] at hq
  exact doesU_ret (post := fun u => [ordT u D, R, pcsT D]) (Mem.toOrd rfl hq) rfl
def idxO (s : Int) : Nat → List Pz → Int
 | _, [] => -1
 | k, x :: l => if x.o.seq = s then (k : Int) else idxO s (k + 1) l
theorem idxO_step {s : Int} {l : List Pz} {k : Nat} {x : Pz} (h : l[k]? = some x) (hn : x.o.seq ≠ s) : idxO s k (l.drop k) = idxO s (k + 1) (l.drop (k + 1)) := by
 rw [dropP_cons h]
 exact if_neg hn
theorem idxO_stop {s : Int} {l : List Pz} {k : Nat} {x : Pz} (h : l[k]? = some x) (hn : x.o.seq = s) : idxO s k (l.drop k) = (k : Int) := by
 rw [dropP_cons h]
 exact if_pos hn
theorem idxO_end {s : Int} {l : List Pz} {k : Nat} (h : l.length ≤ k) : idxO s k (l.drop k) = -1 := by
 rw [List.drop_eq_nil_of_le h]
 rfl
theorem idxO_ways (s : Int) : ∀ (l : List Pz) (k : Nat), (idxO s k l = -1 ∧ ∀ x ∈ l, x.o.seq ≠ s) ∨ ∃ (i : Nat) (x : Pz), l[i]? = some x ∧ x.o.seq = s ∧ idxO s k l = ((k + i : Nat) : Int)
 | [], _ => .inl ⟨rfl, fun _ h => by cases h⟩
 | x :: l, k => by
  by_cases h : x.o.seq = s
  ·exact .inr ⟨0, x, rfl, h, if_pos h⟩
  ·have e : idxO s k (x :: l) = idxO s (k + 1) l := if_neg h
   rw [e]
   rcases idxO_ways s l (k + 1) with ⟨h1, h2⟩ | ⟨i, y, h1, h2, h3⟩
   ·refine .inl ⟨h1, fun z hz => ?_⟩
    rcases List.mem_cons.1 hz with rfl | hz
    ·exact h
    ·exact h2 z hz
   ·exact .inr ⟨i + 1, y, h1, h2, by rw [h3]; omega⟩
set_option maxHeartbeats 4000000 in
set_option maxRecDepth 100000 in
theorem pidx1_d (b : Nat) (s : Int) (Y : List Pz) (x : Pz) (hx : x ∈ Y) : Does Tryz.prog 95 #[.pointer (some ⟨x.b, 0, none⟩), .pointer (some ⟨b, 0, none⟩)] [boxT b (.cells #[.int .i64 s] 3 (0, 0)), pcsT Y] (.bool (x.o.seq == s)) [boxT b (.cells #[.int .i64 s] 3 (0, 0)), pcsT Y] := by
 intro w H hp
 have HM0 := Lib.hid (mem_refl hp)
 clear hp
 go_enter Tryz.func95, Tryz.ntmps95
 refine wp_seq (wQ ?_)
 refine wp_seq ?_
 refine wp_region_M (fun k => k ∈ ([] : List Nat)) [(0, 1), (1, 1), (2, 1), (3, 1), (4, 1), (5, 1), (6, 1)] (by kernel_rfl) (by kernel_rfl) HM0.out ?_
 intro W1 hm2
 have HM3 := Lib.hid hm2
 clear hm2
 refine wT [0, 1, 2] ?_
 refine wM 3 (.int .i64 x.o.seq) (Mem.pcCell HM3.out 1 rfl (hx) 0 pcC_seq) Tryz.underlying3 ?_
 have Csb := Mem.cell HM3.out 0 rfl
 refine wT [4, 5, 6] ?_
 clear Csb
 refine wZ (wp_ret (bodyPost_ret (results_tmp rfl _ _ _) rfl ?_))
 exact does_ret (Mem.only (M := [_, _]) HM3.out [0, 0] rfl) rfl rfl
set_option maxHeartbeats 4000000 in
set_option maxRecDepth 100000 in
theorem pidxf_d (R : At) (p : Option Addr) (m : Nat) (xs Y : List Pz) (hR : Reads elemPq R (.slice p xs.length m) (bksP xs)) (hY : ∀ x ∈ xs, x ∈ Y) (hl : xs.length ≤ 1000) (b : Nat) (s : Int) : Does Tryz.prog 94 #[.slice p xs.length m, .func (.func 95) #[] #[.pointer (some ⟨b, 0, none⟩)]] [R, boxT b (.cells #[.int .i64 s] 3 (0, 0)), pcsT Y] (.int .i64 (idxO s 0 xs)) [R, boxT b (.cells #[.int .i64 s] 3 (0, 0)), pcsT Y] := by
 intro w H hp
 have HM0 := Lib.hid (mem_refl hp)
 clear hp
 go_enter Tryz.func94, Tryz.ntmps94
 refine wp_seq (wQ ?_)
 refine wp_seq (wp_seq (wQ ?_))
 refine wp_block ?_
 refine wp_loop_F [4, 5, 8, 9, 10, 11, 12, 13, 14, 15, 16, 17, 18] (fun n vs W' => ∃ k : Nat, n = xs.length - k ∧ vs 8 = .int .i64 (k : Int) ∧ k ≤ xs.length ∧ idxO s k (xs.drop k) = idxO s 0 xs ∧ Mem [R, boxT b (.cells #[.int .i64 s] 3 (0, 0)), pcsT Y] H w W') (n0 := xs.length) ?_ ?_
 ·exact ⟨0, rfl, rfl, Nat.zero_le _, rfl, (Mem.only (M := [_, _, _]) HM0.out [0, 0, 0] rfl)⟩
 rintro n vs W' ⟨k, rfl, e8, hk, hf, hm⟩
 simp only [putAll, List.map_cons, List.map_nil, Act.put, List.setIfInBounds_toArray, List.set_cons_succ, List.set_cons_zero]
 rw [e8]
 clear e8
 have hf := Lib.hid hf
 have HM1 := Lib.hid hm
 clear hm
 refine wp_seq (wQ ?_)
 refine wp_seq ?_
 refine wp_cond_split rfl (fun h2 => ?_) (fun h2 => ?_)
 ·have hk1 : k + 1 ≤ xs.length := by have : (k : Int) < ((xs.length : Nat) : Int) := (by simpa using h2); omega
  clear h2
  obtain ⟨x, hx'⟩ : ∃ y, xs[k]? = some y := ⟨_, List.getElem?_eq_getElem (hk1)⟩
  have hx := Lib.hid hx'
  clear hx'
  refine wp_skip (then_normal (wp_seq (wp_block (wp_seq (wQ ?_)))))
  refine wp_seq ?_
  by_cases hq : x.o.seq = s
  ·have hb := Lib.hid hq
   have hbb : Hid ((x.o.seq == s) = true) := Lib.hid (beq_iff_eq.2 hq)
   clear hq
   refine wN [(0, 1), (1, 1), (2, 1), (3, 1), (4, 1), (5, 3)] (wT [0, 1, 2] ?_)
   refine wI elemPq 3 (HM1.out.row 0 rfl (fun W H h => rowAt_src (hR W H h))) (bksP_at hx.out) fun eb3 eo4 hc5 => ?_
   refine wM 4 (.pointer (some ⟨x.b, 0, none⟩)) (hc5 0 _ rfl) Tryz.underlying124 ?_
   refine wpS_doesV1 (i := 5) (d := some 16) (rem := [_]) (out := [_, _, _]) rfl (by rfl) rfl rfl Tryz.call95 (pidx1_d b s Y x (hY x (List.mem_of_getElem? hx.out))) rfl rfl HM1.out [1, 1] rfl covS_nil rfl rfl ?_
   rintro W7 hm6 -
   rw [hbb.out]
   have HM8 := Lib.hid hm6
   clear hm6
   simp only [Act.put, List.setIfInBounds_toArray, List.set_cons_succ, List.set_cons_zero]
   refine wZ (wp_cond_true rfl (wp_seq (wQ ?_)))
   refine wp_ret ?_
   refine block_ret (then_ret (then_ret (block_ret (then_ret ?_))))
   refine bodyPost_ret (results_tmp rfl _ _ _) rfl ?_
   have hc : idxO s 0 xs = (k : Int) := by rw [← hf.out, idxO_stop hx.out hb.out]
   rw [hc]
   exact does_ret (Mem.only (M := [_, _, _]) HM8.out [2, 0, 0] rfl) rfl rfl
  ·have hb := Lib.hid hq
   have hbb : Hid ((x.o.seq == s) = false) := Lib.hid (beq_eq_false_iff_ne.2 hq)
   clear hq
   refine wN [(0, 1), (1, 1), (2, 1), (3, 1), (4, 1), (5, 3)] (wT [0, 1, 2] ?_)
   refine wI elemPq 3 (HM1.out.row 0 rfl (fun W H h => rowAt_src (hR W H h))) (bksP_at hx.out) fun eb9 eo10 hc11 => ?_
   refine wM 4 (.pointer (some ⟨x.b, 0, none⟩)) (hc11 0 _ rfl) Tryz.underlying124 ?_
   refine wpS_doesV1 (i := 5) (d := some 16) (rem := [_]) (out := [_, _, _]) rfl (by rfl) rfl rfl Tryz.call95 (pidx1_d b s Y x (hY x (List.mem_of_getElem? hx.out))) rfl rfl HM1.out [1, 1] rfl covS_nil rfl rfl ?_
   rintro W13 hm12 -
   rw [hbb.out]
   have HM14 := Lib.hid hm12
   clear hm12
   simp only [Act.put, List.setIfInBounds_toArray, List.set_cons_succ, List.set_cons_zero]
   refine wZ (wp_cond_false rfl (wp_skip (block_normal (then_normal (wQ ?_)))))
   refine ⟨by kernel_rfl, ?_⟩
   refine ⟨xs.length - (k + 1), by omega, k + 1, rfl, rfl, hk1, ?_, (Mem.only (M := [_, _, _]) HM14.out [2, 0, 0] rfl)⟩
   rw [← hf.out, idxO_step hx.out hb.out]
 ·have hge : Hid (xs.length ≤ k) := Lib.hid (by have : ¬ (k : Int) < ((xs.length : Nat) : Int) := (by simpa using h2); omega)
  clear h2
  refine wp_exit ?_
  refine then_exit (then_exit (block_exit ?_))
  refine then_normal (wp_seq (wQ ?_))
  refine wp_ret (bodyPost_ret (results_tmp rfl _ _ _) rfl ?_)
  have hc : idxO s 0 xs = -1 := by rw [← hf.out, idxO_end hge.out]
  rw [hc]
  exact does_ret (Mem.only (M := [_, _, _]) HM1.out [0, 0, 0] rfl) rfl rfl
set_option maxHeartbeats 4000000 in
set_option maxRecDepth 100000 in
theorem pindex_d (R : At) (p : Option Addr) (m : Nat) (xs Y : List Pz) (hR : Reads elemPq R (.slice p xs.length m) (bksP xs)) (hY : ∀ x ∈ xs, x ∈ Y) (hl : xs.length ≤ 1000) (s : Int) : Does Tryz.prog 55 #[.slice p xs.length m, .int .i64 s] [R, pcsT Y] (.int .i64 (idxO s 0 xs)) [R, pcsT Y] := by
 intro w H hp
 have HM0 := Lib.hid (mem_refl hp)
 clear hp
 go_enter Tryz.func55, Tryz.ntmps55
 refine wp_seq (wN [(0, 3), (1, 1)] ?_)
 refine wpS_box1 (i := 0) (v := .int _ _) (dd := 3) rfl (by rfl) rfl rfl rfl HM0.out covS_nil rfl ?_
 rintro b3 W2 hm1 -
 have HM4 := Lib.hid hm1
 clear hm1
 simp only [Act.put, List.setIfInBounds_toArray, List.set_cons_succ, List.set_cons_zero]
 refine wT [1] ?_
 refine wZ (wp_seq ?_)
 obtain ⟨z, hz'⟩ := int_letter (idxO s 0 xs)
 rw [hz']
 have hz := Lib.hid hz'
 clear hz'
 refine wN [(0, 1), (1, 0), (2, 3), (3, 1)] (wT [0] ?_)
 refine wpS_funcC1 (i := 1) (d := some 6) rfl (by rfl) rfl rfl rfl ?_
 simp only [Act.put, List.setIfInBounds_toArray, List.set_cons_succ, List.set_cons_zero]
 refine wD2 2 [] [_, _, _] Tryz.call94 (pidxf_d R p m xs Y hR hY hl b3 s) HM4 [1, 0, 0] fun W6 hm5 => ?_
 rw [hz.out]
 have HM7 := Lib.hid hm5
 clear hm5
 refine wT [3] ?_
 refine wZ (wp_ret (bodyPost_ret (results_tmp rfl _ _ _) rfl ?_))
 exact does_ret (Mem.only (M := [_, _]) HM7.out [0, 1] rfl) rfl rfl
theorem seq_snoc {D : List Pz} {k : Nat} {x : Pz} (h : D[k]? = some x) : ((D.take k).map fun x => x.o.seq) ++ [x.o.seq] = (D.take (k + 1)).map fun x => x.o.seq := by
 rw [← takeP_snoc h, List.map_append]
 rfl
theorem seqs_of {D : List Pz} {G : Gv} (h : D.map (fun x => x.o) = G.out) : (D.map fun x => x.o.seq) = seqsG G := by
 unfold seqsG
 rw [← h, List.map_map]
 rfl
theorem Mem.toNums {L : List At} {H0 : Nat → Prop} {w W : World} {l : List Int} {p : Option Addr} {n c : Nat} (hn : l.length = n) (h : Mem (rowT elemI (.slice p n c) l :: L) H0 w W) : Mem (numsT (.slice p n c) l :: L) H0 w W := by
 subst hn
 exact Mem.addEx (p, c) (Mem.addPr rfl h)
theorem Mem.swapGv {L : List At} {H0 : Nat → Prop} {w W : World} {A B : At} (h : Mem (A :: B :: L) H0 w W) : Mem (B :: A :: L) H0 w W := SEnd.mono h fun _ h => star_swap h
set_option maxHeartbeats 4000000 in
set_option maxRecDepth 100000 in
theorem gout_d (g : Nat) (A : At) (G : Gv) (hG : GvOk G) : DoesU Tryz.prog 29 #[.pointer (some ⟨g, 0, none⟩)] [gvT g A G] (fun u => [numsT u (seqsG G), gvT g A G]) := by
 intro w H hp
 have HM0 := Lib.hid (mem_refl hp)
 clear hp
 obtain ⟨D, c, hDo', hDr', HM1'⟩ := Mem.gv HM0.out
 clear HM0
 have HM0 := Lib.hid HM1'
 clear HM1'
 have hDo := Lib.hid hDo'
 clear hDo'
 have hDr := Lib.hid hDr'
 clear hDr'
 have hD4 : D.length ≤ 4 := by rw [gv_len hDo.out]; exact hG.len
 go_enter Tryz.func29, Tryz.ntmps29
 refine wp_seq (wQ ?_)
 refine wp_seq (wp_seq (wQ ?_))
 refine wp_cond_false rfl (wp_skip (then_normal (wp_seq (wQ ?_))))
 refine wp_seq (wp_seq ?_)
 obtain ⟨xs, hh', hp', HS1⟩ := Mem.gh (Mem.only (M := [_, _, _]) HM0.out [0, 0, 0] rfl)
 have hh := Lib.hid hh'
 clear hh'
 have hp := Lib.hid hp'
 clear hp'
 have HM2 := Lib.hid HS1
 clear HS1
 obtain ⟨p, m, HS3⟩ := Mem.gq (Mem.only (M := [_, _, _]) HM2.out [0, 0, 0] rfl)
 have HM4 := Lib.hid HS3
 clear HS3
 have HS5 := Mem.nilRow elemI (Mem.only (M := [_, _, _, _]) HM4.out [0, 0, 0, 0] rfl)
 have HM6 := Lib.hid HS5
 clear HS5
 refine wN [(0, 1), (1, 1), (2, 1), (3, 1), (4, 3), (5, 1), (6, 1)] ?_
 have Cbx := Mem.cell HM6.out 1 rfl
 refine wT [0, 1, 2, 3] ?_
 clear Cbx
 refine wU1 4 [_, _, _] Tryz.call71 (pord_d _ _ xs D rowT_reads hh.out hp.out (gv_srt hDo.out hG.srt) (by rw [gv_len hDo.out]; have := hG.len; omega)) HM6 [2, 3] fun u9 W8 hm7 => ?_
 obtain ⟨po, co, rfl, hm7q⟩ := Mem.ord hm7
 clear hm7
 have HM10 := Lib.hid hm7q
 clear hm7q
 refine wT [5, 6] ?_
 refine wZ (wp_block ?_)
 refine wp_loop_F [3, 5, 14, 15, 16, 17, 18, 19, 20, 21, 22, 23, 24, 25] (fun n vs W' => ∃ (k : Nat) (pn : Option Addr) (cn : Nat), n = D.length - k ∧ vs 14 = .int .i64 (k : Int) ∧ vs 3 = .slice pn k cn ∧ k ≤ D.length ∧ Mem [rowT elemI (.slice pn k cn) ((D.take k).map fun x => x.o.seq), rowT elemPr (.slice po D.length co) (bksR D), gvB g c G (.slice p xs.length m), rowT elemPq (.slice p xs.length m) (bksP xs), fdT c G.F, pcsT D] H w W') (n0 := D.length) ?_ ?_
 ·exact ⟨0, none, 0, rfl, rfl, rfl, Nat.zero_le _, (Mem.only (M := [_, _, _, _, _, _]) HM10.out [3, 0, 2, 0, 1, 0] rfl)⟩
 rintro n vs W' ⟨k, pn, cn, rfl, e14, e3, hk, hm⟩
 simp only [putAll, List.map_cons, List.map_nil, Act.put, List.setIfInBounds_toArray, List.set_cons_succ, List.set_cons_zero]
 rw [e14, e3]
 clear e14 e3
 have HM11 := Lib.hid hm
 clear hm
 refine wp_seq (wQ ?_)
 refine wp_seq ?_
 refine wp_cond_split rfl (fun h12 => ?_) (fun h12 => ?_)
 ·have hk1 : k + 1 ≤ D.length := by have : (k : Int) < ((D.length : Nat) : Int) := (by simpa using h12); omega
  clear h12
  obtain ⟨x, hx'⟩ : ∃ y, D[k]? = some y := ⟨_, List.getElem?_eq_getElem (hk1)⟩
  have hx := Lib.hid hx'
  clear hx'
  refine wp_skip (then_normal (wp_seq (wp_block (wp_seq (wN [(0, 1), (1, 1), (2, 1)] ?_)))))
  refine wI elemPr 0 (HM11.out.row 1 rfl vRow) (bksR_at hx.out) fun eb13 eo14 hc15 => ?_
  refine wM 1 (.pointer (some ⟨x.b, 0, none⟩)) (hc15 0 _ rfl) Tryz.underlying124 ?_
  refine wT [2] ?_
  refine wZ (wN [(0, 1), (1, 1), (2, 1), (3, 1), (4, 1), (5, 3), (6, 3), (7, 1)] (wT [0, 1, 2, 3] ?_))
  refine wM 4 (.int .i64 x.o.seq) (Mem.pcCell HM11.out 5 rfl (List.mem_of_getElem? hx.out) 0 pcC_seq) Tryz.underlying3 ?_
  refine wpS_build1 elemI (i := 5) (dd := 23) (y := x.o.seq) rfl (by rfl) rfl rfl rfl (by decide) HM11.out covS_nil rfl ?_
  rintro b18 W19 hm20 -
  have HM21 := Lib.hid hm20
  clear hm20
  simp only [Act.put, List.setIfInBounds_toArray, List.set_cons_succ, List.set_cons_zero]
  refine wpS_append (E := elemI) (i := 6) (d := some 24) (L2 := [_, _, _, _, _, _]) rfl (by rfl) rfl HM21.out 1 rfl rfl (HM21.out.src 0 rfl rowT_reads) rfl (by rw [List.length_map, List.length_take]; show (_ + 1) * 8 ≤ 140737488355328; omega) rfl covS_nil rfl ?_
  rintro u24 W25 hm26 -
  have HM27 := Lib.hid hm26
  clear hm26
  simp only [Act.put, List.setIfInBounds_toArray, List.set_cons_succ, List.set_cons_zero]
  rw [seq_snoc hx.out] at HM27
  obtain ⟨up, uc, hup⟩ := row_form (Mem.src HM27.out 0 rfl rowT_reads)
  rw [List.length_map, List.length_take, Nat.min_eq_left hk1] at hup
  subst hup
  refine wT [7] ?_
  refine wpS_nil (block_normal (then_normal (wQ ?_)))
  refine ⟨by kernel_rfl, ?_⟩
  exact ⟨D.length - (k + 1), by omega, k + 1, up, uc, rfl, rfl, rfl, hk1, (Mem.only (M := [_, _, _, _, _, _]) HM27.out [0, 1, 1, 1, 1, 1] rfl)⟩
 ·have hge : Hid (D.length ≤ k) := Lib.hid (by have : ¬ (k : Int) < ((D.length : Nat) : Int) := (by simpa using h12); omega)
  clear h12
  refine wp_exit ?_
  refine then_exit (then_exit (block_exit ?_))
  refine then_normal (wp_seq (wQ ?_))
  refine wp_ret (bodyPost_ret (results_tmp rfl _ _ _) rfl ?_)
  obtain rfl : k = D.length := by have := hge.out; omega
  have h3 := Mem.toGv (A := A) hDo.out hDr.out (Mem.toGh hh.out hp.out (Mem.toGq rfl (Mem.only (M := [_, _, _, _, _]) HM11.out [2, 2, 2, 2, 0] rfl)))
  rw [List.take_length, seqs_of hDo.out] at h3
  exact doesU_ret (post := fun u => [numsT u (seqsG G), gvT g A G]) (Mem.toNums (by rw [← seqs_of hDo.out, List.length_map]) (Mem.swapGv h3)) rfl
end Go.Proofs.YtcchkkdbagpgjaaGreat
