/- PD: FdB, FdF, FdH. -/
import Derived.Test.YtcchkkdbagpgjaaGreatQ14
import Derived.Test.YtcchkkdbagpgjaaGreatLgE
import Derived.Test.YtcchkkdbagpgjaaGreatPA
import Derived.Test.YtcchkkdbagpgjaaGreatLgX
namespace Go.Proofs.YtcchkkdbagpgjaaGreat
open Go Go.RowKit Go.BigFrame
theorem run_neK {W : World} {a : Act} {o : Oper} {x y : Operand} {tt : TypeId} {s : ByteArray} (ho : o.op = .binOp .neq 9 x y tt) (hx : a.eval x = .string s) (hy : a.eval y = .string s) : (execOp a.eval o).run Tryz.prog W = .ok (.value (.bool false)) W := by
 have hg : (eqGuard .neq 9 x y (.string s) (.string s)).run Tryz.prog W = .ok () W := by simp [eqGuard, go_sem]
 unfold execOp
 simp only [ho, hx, hy, Sem.run_bind, hg, Result.andThen_ok, binOp_string_neq, Sem.run_pure]
 simp
theorem run_lssS {W : World} {a : Act} {o : Oper} {x y : Operand} {tt : TypeId} {s t : ByteArray} {b : Bool} (hb : decide (ltK s t) = b) (ho : o.op = .binOp .lss 9 x y tt) (hx : a.eval x = .string s) (hy : a.eval y = .string t) : (execOp a.eval o).run Tryz.prog W = .ok (.value (.bool b)) W := by
 subst hb
 have hg : (eqGuard .lss 9 x y (.string s) (.string t)).run Tryz.prog W = .ok () W := by simp [eqGuard, go_sem]
 have hd : decide (ltK s t) = Op.bytesLess s.toList t.toList := by
  by_cases h : ltK s t
  ·rw [decide_eq_true h]
   exact h.symm
  ·rw [decide_eq_false h]
   exact (Bool.eq_false_iff.2 h).symm
 unfold execOp
 simp only [ho, hx, hy, Sem.run_bind, hg, Result.andThen_ok, binOp_string_lss, Sem.run_pure]
 rw [hd]
theorem run_gtrS {W : World} {a : Act} {o : Oper} {x y : Operand} {tt : TypeId} {s t : ByteArray} {b : Bool} (hb : decide (ltK t s) = b) (ho : o.op = .binOp .gtr 9 x y tt) (hx : a.eval x = .string s) (hy : a.eval y = .string t) : (execOp a.eval o).run Tryz.prog W = .ok (.value (.bool b)) W := by
 subst hb
 have hg : (eqGuard .gtr 9 x y (.string s) (.string t)).run Tryz.prog W = .ok () W := by simp [eqGuard, go_sem]
 have hd : decide (ltK t s) = Op.bytesLess t.toList s.toList := by
  by_cases h : ltK t s
  ·rw [decide_eq_true h]
   exact h.symm
  ·rw [decide_eq_false h]
   exact (Bool.eq_false_iff.2 h).symm
 have hop : binOp .gtr 9 (.string s) (.string t) = pure (.bool (Op.bytesLess t.toList s.toList)) := by
  have e : (!Op.bytesLess s.toList t.toList && !(s.toList == t.toList)) = Op.bytesLess t.toList s.toList := by
   rcases ltK_tri s t with h | rfl | h
   ·rw [show Op.bytesLess s.toList t.toList = true from h, show Op.bytesLess t.toList s.toList = false from Bool.eq_false_iff.2 fun h2 => ltK_irrefl s (ltK_trans h h2)]
    rfl
   ·rw [show Op.bytesLess s.toList s.toList = false from Bool.eq_false_iff.2 (ltK_irrefl s)]
    simp
   ·rw [show Op.bytesLess t.toList s.toList = true from h, show Op.bytesLess s.toList t.toList = false from Bool.eq_false_iff.2 fun h2 => ltK_irrefl s (ltK_trans h2 h), beq_eq_false_iff_ne.2 fun h2 => by
     unfold ltK at h
     rw [h2] at h
     exact ltK_irrefl t h]
    rfl
  rw [← e]
  simp [binOp, Op.stringOp]
 unfold execOp
 simp only [ho, hx, hy, Sem.run_bind, hg, Result.andThen_ok, hop, Sem.run_pure]
 rw [hd]
def idxP (p : ByteArray → Bool) : Nat → List ByteArray → Int
 | _, [] => -1
 | k, y :: l => if p y = true then (k : Int) else idxP p (k + 1) l
section
variable {p : ByteArray → Bool} {l : List ByteArray} {k : Nat} {y : ByteArray}
theorem drop_key (h : l[k]? = some y) : l.drop k = y :: l.drop (k + 1) := by
 obtain ⟨h1, rfl⟩ := List.getElem?_eq_some_iff.1 h
 exact List.drop_eq_getElem_cons h1
theorem idxP_step (h : l[k]? = some y) (hp : p y = false) : idxP p k (l.drop k) = idxP p (k + 1) (l.drop (k + 1)) := by
 rw [drop_key h]
 exact if_neg (by rw [hp]; exact Bool.false_ne_true)
theorem idxP_stop (h : l[k]? = some y) (hp : p y = true) : idxP p k (l.drop k) = (k : Int) := by
 rw [drop_key h]
 exact if_pos hp
theorem idxP_end (h : l.length ≤ k) : idxP p k (l.drop k) = -1 := by
 rw [List.drop_eq_nil_of_le h]
 rfl
theorem idxP_has : ∀ (l : List ByteArray) (k : Nat), decide (0 ≤ idxP p k l) = l.any p
 | [], _ => rfl
 | y :: l, k => by
  unfold idxP
  rw [List.any_cons]
  cases hp : p y with
  | true => rw [if_pos rfl, Bool.true_or]; exact decide_eq_true (by omega)
  | false => rw [if_neg Bool.false_ne_true, Bool.false_or]; exact idxP_has l (k + 1)
end
set_option maxHeartbeats 4000000 in
set_option maxRecDepth 100000 in
theorem cnan_d (s : ByteArray) : Does Tryz.prog 188 #[.string s] [] (.bool false) [] := by
 intro w H hp
 have HM0 := Lib.hid (mem_refl hp)
 clear hp
 go_enter Tryz.func188, Tryz.ntmps188
 refine wp_seq (wQ ?_)
 refine wp_seq (wN [(0, 1), (1, 1), (2, 1), (3, 1)] (wT [0, 1] ?_))
 refine wR 2 (run_neK rfl rfl rfl) ?_
 refine wT [3] ?_
 refine wZ (wp_ret (bodyPost_ret (results_tmp rfl _ _ _) rfl ?_))
 exact does_ret (Mem.only (M := []) HM0.out [] rfl) rfl rfl
set_option maxHeartbeats 4000000 in
set_option maxRecDepth 100000 in
theorem snan_d (s : ByteArray) : Does Tryz.prog 172 #[.string s] [] (.bool false) [] := by
 intro w H hp
 have HM0 := Lib.hid (mem_refl hp)
 clear hp
 go_enter Tryz.func172, Tryz.ntmps172
 refine wp_seq (wQ ?_)
 refine wp_seq (wN [(0, 1), (1, 1), (2, 1), (3, 1)] (wT [0, 1] ?_))
 refine wR 2 (run_neK rfl rfl rfl) ?_
 refine wT [3] ?_
 refine wZ (wp_ret (bodyPost_ret (results_tmp rfl _ _ _) rfl ?_))
 exact does_ret (Mem.only (M := []) HM0.out [] rfl) rfl rfl
set_option maxHeartbeats 4000000 in
set_option maxRecDepth 100000 in
theorem cless_d (s t : ByteArray) : Does Tryz.prog 167 #[.string s, .string t] [] (.bool (decide (ltK s t))) [] := by
 intro w H hp
 have HM0 := Lib.hid (mem_refl hp)
 clear hp
 go_enter Tryz.func167, Tryz.ntmps167
 refine wp_seq (wQ ?_)
 refine wp_seq (wN [(0, 1), (1, 3), (2, 1), (3, 1), (4, 3), (5, 1), (6, 1), (7, 1), (8, 1), (9, 1), (10, 1), (11, 1), (12, 1)] (wT [0] ?_))
 refine wD1h 1 [] [] Tryz.call188 (cnan_d s) HM0 [] fun W2 HM3 => ?_
 refine wT [2, 3] ?_
 refine wK 4 ?_
 refine wT [5, 6, 7, 8, 9] ?_
 refine wR 10 (run_lssS rfl rfl rfl rfl) ?_
 refine wT [11, 12] ?_
 refine wZ (wp_ret (bodyPost_ret (results_tmp rfl _ _ _) rfl ?_))
 exact does_ret (Mem.only (M := []) HM3.out [] rfl) rfl rfl
set_option maxHeartbeats 4000000 in
set_option maxRecDepth 100000 in
theorem ksearch_d (R : At) (v : Value) (l : List ByteArray) (hR : ∀ W H, R.p W H → RowAt elemS W v l) (hs : l.Pairwise ltK) (hl : l.length ≤ 3000) (t : ByteArray) : Does Tryz.prog 146 #[v, .string t] [R] (.tuple #[.int .i64 (lowN l t : Int), .bool (hasL l t)]) [R] := by
 intro w H hp
 have HM0 := Lib.hid (mem_refl hp)
 clear hp
 obtain ⟨p, cap, rfl, -⟩ := (HM0.out.row 0 rfl hR).form
 have hql0 := lowN_le l t
 obtain ⟨q, hq'⟩ : ∃ q, lowN l t = q := ⟨_, rfl⟩
 have hql : q ≤ l.length := by rw [← hq']; exact hql0
 clear hql0
 rw [hq']
 have hq := Lib.hid hq'
 clear hq'
 go_enter Tryz.func146, Tryz.ntmps146
 refine wp_seq (wQ ?_)
 refine wp_seq (wQ ?_)
 refine wp_seq (wQ ?_)
 refine wp_seq (wp_block ?_)
 refine wp_loop_F [7, 8, 9, 13, 14, 15, 16, 17, 18, 19, 20, 21, 22, 23, 24, 25, 26, 27, 28, 29, 30] (fun n vs W' => ∃ i j : Nat, n = j - i ∧ vs 7 = .int .i64 (i : Int) ∧ vs 8 = .int .i64 (j : Int) ∧ i ≤ q ∧ q ≤ j ∧ j ≤ l.length ∧ Mem [R] H w W') (n0 := l.length - 0) ?_ ?_
 ·exact ⟨0, l.length, rfl, rfl, rfl, Nat.zero_le _, hql, Nat.le_refl _, (Mem.only (M := [_]) HM0.out [0] rfl)⟩
 rintro n vs W' ⟨i, j, rfl, e7, e8, hiq, hqj, hjl, hm⟩
 simp only [putAll, List.map_cons, List.map_nil, Act.put, List.setIfInBounds_toArray, List.set_cons_succ, List.set_cons_zero]
 rw [e7, e8]
 clear e7 e8
 have HM1 := Lib.hid hm
 clear hm
 refine wp_seq (wp_seq (wQ ?_))
 refine wp_cond_split rfl (fun h2 => ?_) (fun h2 => ?_)
 ·have hij : i < j := by have : (i : Int) < (j : Int) := (by simpa using h2); omega
  clear h2
  refine wp_skip (then_normal (wp_block (wp_seq ?_)))
  obtain ⟨m, hm0⟩ : ∃ m, i + j = m := ⟨_, rfl⟩
  have hme : Hid ((i : Int) + (j : Int) = (m : Int)) := Lib.hid (by omega)
  have hcu : Hid (IntKind.u64.wrap (m : Int) = (m : Int)) := Lib.hid (by unfold IntKind.wrap; simp [IntKind.signed, IntKind.bits]; omega)
  obtain ⟨k, hk'⟩ : ∃ k, m / 2 = k := ⟨_, rfl⟩
  have hci : Hid (wrap64 (k : Int) = (k : Int)) := Lib.hid (by unfold wrap64; omega)
  have hkj : k < j := by omega
  have hik : i ≤ k := by omega
  clear hm0
  have hk := Lib.hid hk'
  clear hk'
  obtain ⟨y, hy'⟩ : ∃ y, l[k]? = some y := ⟨_, List.getElem?_eq_getElem (by omega)⟩
  have hy := Lib.hid hy'
  clear hy'
  refine wN [(0, 1), (1, 1), (2, 1), (3, 1), (4, 1), (5, 1), (6, 1)] (wT [0, 1] ?_)
  refine wT [2] ?_
  rw [hme.out]
  refine wT [3] ?_
  rw [hcu.out]
  refine wR 4 (run_shr1 (k := m) rfl rfl rfl) ?_
  rw [hk.out]
  refine wT [5, 6] ?_
  refine wZ (wp_seq ?_)
  by_cases hlt : ltK y t
  ·have g1 : decide (ltK y t) = true := decide_eq_true hlt
   have hkq : k < q := by rw [← hq.out]; exact (lowN_iff hs hy.out).1 hlt
   replace hlt := Lib.hid hlt
   refine wN [(0, 1), (1, 1), (2, 1), (3, 1), (4, 1), (5, 3)] (wT [0, 1] ?_)
   refine wI elemS 2 (HM1.out.row 0 rfl hR) (hy.out) fun eb3 eo4 hc5 => ?_
   refine wM 3 (.string y) (hc5 0 _ rfl) Tryz.underlying9 ?_
   refine wT [4] ?_
   refine wD2 5 [_] [_] Tryz.call167 (cless_d y t) HM1 [] fun W7 hm6 => ?_
   rw [g1]
   have HM8 := Lib.hid hm6
   clear hm6
   refine wZ (wp_cond_true rfl (wN [(0, 1), (1, 1), (2, 1)] (wT [0, 1, 2] ?_)))
   refine wpS_nil (block_normal (then_normal ?_))
   refine ⟨by kernel_rfl, ?_⟩
   refine ⟨j - (k + 1), by omega, k + 1, j, rfl, rfl, rfl, by omega, by omega, hjl, (Mem.only (M := [_]) HM8.out [0] rfl)⟩
  ·have g1 : decide (ltK y t) = false := decide_eq_false hlt
   have hkq : q ≤ k := by rw [← hq.out]; exact Nat.le_of_not_lt fun h => hlt ((lowN_iff hs hy.out).2 h)
   replace hlt := Lib.hid hlt
   refine wN [(0, 1), (1, 1), (2, 1), (3, 1), (4, 1), (5, 3)] (wT [0, 1] ?_)
   refine wI elemS 2 (HM1.out.row 0 rfl hR) (hy.out) fun eb9 eo10 hc11 => ?_
   refine wM 3 (.string y) (hc11 0 _ rfl) Tryz.underlying9 ?_
   refine wT [4] ?_
   refine wD2 5 [_] [_] Tryz.call167 (cless_d y t) HM1 [] fun W13 hm12 => ?_
   rw [g1]
   have HM14 := Lib.hid hm12
   clear hm12
   refine wZ (wp_cond_false rfl (wN [(0, 1), (1, 1)] (wT [0, 1] ?_)))
   refine wpS_nil (block_normal (then_normal ?_))
   refine ⟨by kernel_rfl, ?_⟩
   refine ⟨k - i, by omega, i, k, rfl, rfl, rfl, hiq, by omega, by omega, (Mem.only (M := [_]) HM14.out [0] rfl)⟩
 ·have hge : Hid (j ≤ i) := Lib.hid (by have : ¬ (i : Int) < (j : Int) := (by simpa using h2); omega)
  clear h2
  refine wp_exit ?_
  refine then_exit (then_exit (block_exit ?_))
  refine then_normal (wp_seq ?_)
  have hiq2 : i = q := by have := hge.out; omega
  clear hge
  subst hiq2
  have hw := low_ways t hs
  rw [hq.out] at hw
  rcases hw with ⟨h1, h2⟩ | ⟨y, h1, hy', h3, h2⟩ | ⟨y, h1, hy', h3, h2⟩
  ·have g1 : decide ((i : Int) < (l.length : Int)) = false := decide_eq_false (by omega)
   have g1' : decide (i < l.length) = false := decide_eq_false (by omega)
   have hh := Lib.hid h2
   clear h2
   refine wN [(0, 1), (1, 1), (2, 1), (3, 1), (4, 1), (5, 1), (6, 1), (7, 1), (8, 1), (9, 1), (10, 1), (11, 1), (12, 1), (13, 1), (14, 1), (15, 1), (16, 3), (17, 1), (18, 1), (19, 3), (20, 1), (21, 1), (22, 1), (23, 1), (24, 1)] (wT [0, 1, 2, 3, 4, 5, 6] ?_)
   refine wK 7 ?_
   refine wK 8 ?_
   refine wT [9] ?_
   refine wK 10 ?_
   refine wT [11, 12, 13] ?_
   refine wK 14 ?_
   refine wK 15 ?_
   refine wK 16 ?_
   refine wT [17, 18] ?_
   refine wK 19 ?_
   refine wT [20, 21, 22, 23, 24] ?_
   refine wZ (wp_ret ?_)
   refine bodyPost_ret (results_tmp2 rfl _ _ _) rfl ?_
   rw [hh.out]
   exact does_ret (Mem.only (M := [_]) HM1.out [0] rfl) rfl rfl
  ·have g1 : decide ((i : Int) < (l.length : Int)) = true := decide_eq_true (by omega)
   have g1' : decide (i < l.length) = true := decide_eq_true h1
   have hye := Lib.hid h3
   clear h3
   have hh := Lib.hid h2
   clear h2
   have hy := Lib.hid hy'
   clear hy'
   refine wN [(0, 1), (1, 1), (2, 1), (3, 1), (4, 1), (5, 1), (6, 1), (7, 1), (8, 1), (9, 1), (10, 1), (11, 1), (12, 1), (13, 1), (14, 1), (15, 1), (16, 3), (17, 1), (18, 1), (19, 3), (20, 1), (21, 1), (22, 1), (23, 1), (24, 1)] (wT [0, 1, 2, 3, 4, 5, 6] ?_)
   refine wI elemS 7 (HM1.out.row 0 rfl hR) (hy.out) fun eb15 eo16 hc17 => ?_
   refine wM 8 (.string y) (hc17 0 _ rfl) Tryz.underlying9 ?_
   refine wT [9] ?_
   refine wR 10 (run_eqS (b := true) (decide_eq_true hye.out) rfl rfl rfl) ?_
   refine wT [11, 12, 13] ?_
   refine wK 14 ?_
   refine wK 15 ?_
   refine wK 16 ?_
   refine wT [17, 18] ?_
   refine wK 19 ?_
   refine wT [20, 21, 22, 23, 24] ?_
   refine wZ (wp_ret ?_)
   refine bodyPost_ret (results_tmp2 rfl _ _ _) rfl ?_
   rw [hh.out]
   exact does_ret (Mem.only (M := [_]) HM1.out [0] rfl) rfl rfl
  ·have g1 : decide ((i : Int) < (l.length : Int)) = true := decide_eq_true (by omega)
   have g1' : decide (i < l.length) = true := decide_eq_true h1
   have hye := Lib.hid h3
   clear h3
   have hh := Lib.hid h2
   clear h2
   have hy := Lib.hid hy'
   clear hy'
   refine wN [(0, 1), (1, 1), (2, 1), (3, 1), (4, 1), (5, 1), (6, 1), (7, 1), (8, 1), (9, 1), (10, 1), (11, 1), (12, 1), (13, 1), (14, 1), (15, 1), (16, 3), (17, 1), (18, 1), (19, 3), (20, 1), (21, 1), (22, 1), (23, 1), (24, 1)] (wT [0, 1, 2, 3, 4, 5, 6] ?_)
   refine wI elemS 7 (HM1.out.row 0 rfl hR) (hy.out) fun eb18 eo19 hc20 => ?_
   refine wM 8 (.string y) (hc20 0 _ rfl) Tryz.underlying9 ?_
   refine wT [9] ?_
   refine wR 10 (run_eqS (b := false) (decide_eq_false hye.out) rfl rfl rfl) ?_
   refine wT [11, 12, 13] ?_
   refine wI elemS 14 (HM1.out.row 0 rfl hR) (hy.out) fun eb21 eo22 hc23 => ?_
   refine wM 15 (.string y) (hc23 0 _ rfl) Tryz.underlying9 ?_
   refine wD1h 16 [_] [_] Tryz.call172 (snan_d y) HM1 [] fun W25 HM26 => ?_
   refine wT [17, 18] ?_
   refine wK 19 ?_
   refine wT [20, 21, 22, 23, 24] ?_
   refine wZ (wp_ret ?_)
   refine bodyPost_ret (results_tmp2 rfl _ _ _) rfl ?_
   rw [hh.out]
   exact does_ret (Mem.only (M := [_]) HM26.out [0] rfl) rfl rfl
set_option maxHeartbeats 4000000 in
set_option maxRecDepth 100000 in
theorem khas_d (R : At) (v : Value) (l : List ByteArray) (hR : ∀ W H, R.p W H → RowAt elemS W v l) (hs : l.Pairwise ltK) (hl : l.length ≤ 3000) (t : ByteArray) : Does Tryz.prog 131 #[v, .string t] [R] (.bool (hasL l t)) [R] := by
 intro w H hp
 have HM0 := Lib.hid (mem_refl hp)
 clear hp
 go_enter Tryz.func131, Tryz.ntmps131
 refine wp_seq (wQ ?_)
 refine wp_seq (wN [(0, 1), (1, 1), (2, 3), (3, 1), (4, 1), (5, 1), (6, 1), (7, 1)] (wT [0, 1] ?_))
 refine wD2h 2 [] [_] Tryz.call146 (ksearch_d R v l hR hs hl t) HM0 [0] fun W2 HM3 => ?_
 refine wT [3, 4, 5, 6, 7] ?_
 refine wZ (wp_seq (wQ ?_))
 refine wp_ret (bodyPost_ret (results_tmp rfl _ _ _) rfl ?_)
 exact does_ret (Mem.only (M := [_]) HM3.out [0] rfl) rfl rfl
set_option maxHeartbeats 4000000 in
set_option maxRecDepth 100000 in
theorem dindex_d (R : At) (v : Value) (l : List ByteArray) (hR : ∀ W H, R.p W H → RowAt elemD W v l) (hll : l.length ≤ 3000) (x : ByteArray) : Does Tryz.prog 129 #[v, .string x] [R] (.int .i64 (idxP (fun z => decide (z = x)) 0 l)) [R] := by
 intro w H hp
 have HM0 := Lib.hid (mem_refl hp)
 clear hp
 obtain ⟨p, cap, rfl, -⟩ := (HM0.out.row 0 rfl hR).form
 go_enter Tryz.func129, Tryz.ntmps129
 refine wp_seq (wQ ?_)
 refine wp_seq (wp_seq (wQ ?_))
 refine wp_block ?_
 refine wp_loop_F [4, 5, 8, 9, 10, 11, 12, 13, 14, 15, 16, 17, 18] (fun n vs W' => ∃ k : Nat, n = l.length - k ∧ vs 8 = .int .i64 (k : Int) ∧ k ≤ l.length ∧ idxP (fun z => decide (z = x)) k (l.drop k) = idxP (fun z => decide (z = x)) 0 l ∧ Mem [R] H w W') (n0 := l.length) ?_ ?_
 ·exact ⟨0, rfl, rfl, Nat.zero_le _, rfl, (Mem.only (M := [_]) HM0.out [0] rfl)⟩
 rintro n vs W' ⟨k, rfl, e8, hk, hf, hm⟩
 simp only [putAll, List.map_cons, List.map_nil, Act.put, List.setIfInBounds_toArray, List.set_cons_succ, List.set_cons_zero]
 rw [e8]
 clear e8
 have hf := Lib.hid hf
 have HM1 := Lib.hid hm
 clear hm
 refine wp_seq (wQ ?_)
 refine wp_seq ?_
 refine wp_cond_split rfl (fun h2 => ?_) (fun h2 => ?_)
 ·have hk1 : k + 1 ≤ l.length := by have : (k : Int) < ((l.length : Nat) : Int) := (by simpa using h2); omega
  clear h2
  obtain ⟨y, hy'⟩ : ∃ y, l[k]? = some y := ⟨_, List.getElem?_eq_getElem (hk1)⟩
  have hy := Lib.hid hy'
  clear hy'
  refine wp_skip (then_normal (wp_seq (wp_block (wp_seq (wQ ?_)))))
  refine wp_seq ?_
  by_cases hxy : y = x
  ·replace hxy := Lib.hid hxy
   refine wN [(0, 1), (1, 1), (2, 1), (3, 1), (4, 1), (5, 1)] (wT [0, 1, 2] ?_)
   refine wI elemD 3 (HM1.out.row 0 rfl hR) (hy.out) fun eb3 eo4 hc5 => ?_
   refine wM 4 (.string y) (hc5 0 _ rfl) Tryz.underlying9 ?_
   refine wR 5 (run_eqS (b := true) (decide_eq_true hxy.out.symm) rfl rfl rfl) ?_
   refine wZ (wp_cond_true rfl (wp_seq (wQ ?_)))
   refine wp_ret ?_
   refine block_ret (then_ret (then_ret (block_ret (then_ret ?_))))
   refine bodyPost_ret (results_tmp rfl _ _ _) rfl ?_
   have hc : idxP (fun z => decide (z = x)) 0 l = (k : Int) := by rw [← hf.out, idxP_stop (p := fun z => decide (z = x)) hy.out (decide_eq_true hxy.out)]
   rw [hc]
   exact does_ret (Mem.only (M := [_]) HM1.out [0] rfl) rfl rfl
  ·replace hxy := Lib.hid hxy
   refine wN [(0, 1), (1, 1), (2, 1), (3, 1), (4, 1), (5, 1)] (wT [0, 1, 2] ?_)
   refine wI elemD 3 (HM1.out.row 0 rfl hR) (hy.out) fun eb6 eo7 hc8 => ?_
   refine wM 4 (.string y) (hc8 0 _ rfl) Tryz.underlying9 ?_
   refine wR 5 (run_eqS (b := false) (decide_eq_false fun e => hxy.out e.symm) rfl rfl rfl) ?_
   refine wZ (wp_cond_false rfl (wp_skip (block_normal (then_normal (wQ ?_)))))
   refine ⟨by kernel_rfl, ?_⟩
   refine ⟨l.length - (k + 1), by omega, k + 1, rfl, rfl, hk1, ?_, (Mem.only (M := [_]) HM1.out [0] rfl)⟩
   rw [← hf.out, idxP_step (p := fun z => decide (z = x)) hy.out (decide_eq_false hxy.out)]
 ·have hge : Hid (l.length ≤ k) := Lib.hid (by have : ¬ (k : Int) < ((l.length : Nat) : Int) := (by simpa using h2); omega)
  clear h2
  refine wp_exit ?_
  refine then_exit (then_exit (block_exit ?_))
  refine then_normal (wp_seq (wQ ?_))
  refine wp_ret (bodyPost_ret (results_tmp rfl _ _ _) rfl ?_)
  have hc : idxP (fun z => decide (z = x)) 0 l = -1 := by rw [← hf.out, idxP_end hge.out]
  rw [hc]
  exact does_ret (Mem.only (M := [_]) HM1.out [0] rfl) rfl rfl
set_option maxHeartbeats 4000000 in
set_option maxRecDepth 100000 in
theorem dcont_d (R : At) (v : Value) (l : List ByteArray) (hR : ∀ W H, R.p W H → RowAt elemD W v l) (hll : l.length ≤ 3000) (x : ByteArray) : Does Tryz.prog 91 #[v, .string x] [R] (.bool (hasL l x)) [R] := by
 intro w H hp
 have HM0 := Lib.hid (mem_refl hp)
 clear hp
 go_enter Tryz.func91, Tryz.ntmps91
 refine wp_seq (wQ ?_)
 refine wp_seq ?_
 have hzz : Hid (decide (0 ≤ idxP (fun z => decide (z = x)) 0 l) = hasL l x) := Lib.hid (idxP_has l 0)
 obtain ⟨z, hz'⟩ := int_letter (idxP (fun z => decide (z = x)) 0 l)
 rw [← hzz.out, hz']
 have hz := Lib.hid hz'
 clear hz'
 refine wN [(0, 1), (1, 1), (2, 3), (3, 1), (4, 1)] (wT [0, 1] ?_)
 refine wD2 2 [] [_] Tryz.call129 (dindex_d R v l hR hll x) HM0 [0] fun W2 hm1 => ?_
 rw [hz.out]
 have HM3 := Lib.hid hm1
 clear hm1
 refine wT [3, 4] ?_
 refine wZ (wp_ret (bodyPost_ret (results_tmp rfl _ _ _) rfl ?_))
 exact does_ret (Mem.only (M := [_]) HM3.out [0] rfl) rfl rfl
set_option maxHeartbeats 4000000 in
set_option maxRecDepth 100000 in
theorem over1_d (b : Nat) (K : At) (vk : Value) (ks : List ByteArray) (hK : ∀ W H, K.p W H → RowAt elemS W vk ks) (hs : ks.Pairwise ltK) (hl : ks.length ≤ 3000) (x : ByteArray) : Does Tryz.prog 130 #[.string x, .pointer (some ⟨b, 0, none⟩)] [boxT b (.cells #[vk] 81 (0, 0)), K] (.bool (hasL ks x)) [boxT b (.cells #[vk] 81 (0, 0)), K] := by
 intro w H hp
 have HM0 := Lib.hid (mem_refl hp)
 clear hp
 obtain ⟨pk, ck, rfl, -⟩ := (HM0.out.row 1 rfl hK).form
 go_enter Tryz.func130, Tryz.ntmps130
 refine wp_seq (wQ ?_)
 refine wp_seq (wN [(0, 1), (1, 1), (2, 3), (3, 1)] ?_)
 have Ckb := Mem.cell HM0.out 0 rfl
 refine wT [0, 1] ?_
 clear Ckb
 refine wD2h 2 [_] [_, _] Tryz.call131 (khas_d K _ ks hK hs hl x) HM0 [1] fun W2 HM3 => ?_
 refine wT [3] ?_
 refine wZ (wp_ret (bodyPost_ret (results_tmp rfl _ _ _) rfl ?_))
 exact does_ret (Mem.only (M := [_, _]) HM3.out [1, 0] rfl) rfl rfl
set_option maxHeartbeats 4000000 in
set_option maxRecDepth 100000 in
theorem dindexf_d (R : At) (v : Value) (l : List ByteArray) (hR : ∀ W H, R.p W H → RowAt elemD W v l) (hll : l.length ≤ 3000) (b : Nat) (K : At) (vk : Value) (ks : List ByteArray) (hK : ∀ W H, K.p W H → RowAt elemS W vk ks) (hs : ks.Pairwise ltK) (hl : ks.length ≤ 3000) : Does Tryz.prog 147 #[v, .func (.func 130) #[] #[.pointer (some ⟨b, 0, none⟩)]] [R, boxT b (.cells #[vk] 81 (0, 0)), K] (.int .i64 (idxP (hasL ks) 0 l)) [R, boxT b (.cells #[vk] 81 (0, 0)), K] := by
 intro w H hp
 have HM0 := Lib.hid (mem_refl hp)
 clear hp
 obtain ⟨p, cap, rfl, -⟩ := (HM0.out.row 0 rfl hR).form
 obtain ⟨pk, ck, rfl, -⟩ := (HM0.out.row 2 rfl hK).form
 go_enter Tryz.func147, Tryz.ntmps147
 refine wp_seq (wQ ?_)
 refine wp_seq (wp_seq (wQ ?_))
 refine wp_block ?_
 refine wp_loop_F [4, 5, 8, 9, 10, 11, 12, 13, 14, 15, 16, 17, 18] (fun n vs W' => ∃ k : Nat, n = l.length - k ∧ vs 8 = .int .i64 (k : Int) ∧ k ≤ l.length ∧ idxP (hasL ks) k (l.drop k) = idxP (hasL ks) 0 l ∧ Mem [R, boxT b (.cells #[.slice pk ks.length ck] 81 (0, 0)), K] H w W') (n0 := l.length) ?_ ?_
 ·exact ⟨0, rfl, rfl, Nat.zero_le _, rfl, (Mem.only (M := [_, _, _]) HM0.out [0, 0, 0] rfl)⟩
 rintro n vs W' ⟨k, rfl, e8, hk, hf, hm⟩
 simp only [putAll, List.map_cons, List.map_nil, Act.put, List.setIfInBounds_toArray, List.set_cons_succ, List.set_cons_zero]
 rw [e8]
 clear e8
 have hf := Lib.hid hf
 have HM1 := Lib.hid hm
 clear hm
 refine wp_seq (wQ ?_)
 refine wp_seq ?_
 refine wp_cond_split rfl (fun h2 => ?_) (fun h2 => ?_)
 ·have hk1 : k + 1 ≤ l.length := by have : (k : Int) < ((l.length : Nat) : Int) := (by simpa using h2); omega
  clear h2
  obtain ⟨y, hy'⟩ : ∃ y, l[k]? = some y := ⟨_, List.getElem?_eq_getElem (hk1)⟩
  have hy := Lib.hid hy'
  clear hy'
  refine wp_skip (then_normal (wp_seq (wp_block (wp_seq (wQ ?_)))))
  refine wp_seq ?_
  obtain ⟨z, hb'⟩ := bool_letter (hasL ks y)
  have hb := Lib.hid hb'
  clear hb'
  cases z
  ·skip
   refine wN [(0, 1), (1, 1), (2, 1), (3, 1), (4, 1), (5, 3)] (wT [0, 1, 2] ?_)
   refine wI elemD 3 (HM1.out.row 0 rfl hR) (hy.out) fun eb3 eo4 hc5 => ?_
   refine wM 4 (.string y) (hc5 0 _ rfl) Tryz.underlying9 ?_
   refine wpS_doesV1 (i := 5) (d := some 16) (rem := [_]) (out := [_, _, _]) rfl (by rfl) rfl rfl Tryz.call130 (over1_d b K _ ks hK hs hl y) rfl rfl HM1.out [1, 1] rfl covS_nil rfl rfl ?_
   rintro W7 hm6 -
   rw [hb.out]
   have HM8 := Lib.hid hm6
   clear hm6
   simp only [Act.put, List.setIfInBounds_toArray, List.set_cons_succ, List.set_cons_zero]
   refine wZ (wp_cond_false rfl (wp_skip (block_normal (then_normal (wQ ?_)))))
   refine ⟨by kernel_rfl, ?_⟩
   refine ⟨l.length - (k + 1), by omega, k + 1, rfl, rfl, hk1, ?_, (Mem.only (M := [_, _, _]) HM8.out [2, 0, 0] rfl)⟩
   rw [← hf.out, idxP_step hy.out hb.out]
  ·skip
   refine wN [(0, 1), (1, 1), (2, 1), (3, 1), (4, 1), (5, 3)] (wT [0, 1, 2] ?_)
   refine wI elemD 3 (HM1.out.row 0 rfl hR) (hy.out) fun eb9 eo10 hc11 => ?_
   refine wM 4 (.string y) (hc11 0 _ rfl) Tryz.underlying9 ?_
   refine wpS_doesV1 (i := 5) (d := some 16) (rem := [_]) (out := [_, _, _]) rfl (by rfl) rfl rfl Tryz.call130 (over1_d b K _ ks hK hs hl y) rfl rfl HM1.out [1, 1] rfl covS_nil rfl rfl ?_
   rintro W13 hm12 -
   rw [hb.out]
   have HM14 := Lib.hid hm12
   clear hm12
   simp only [Act.put, List.setIfInBounds_toArray, List.set_cons_succ, List.set_cons_zero]
   refine wZ (wp_cond_true rfl (wp_seq (wQ ?_)))
   refine wp_ret ?_
   refine block_ret (then_ret (then_ret (block_ret (then_ret ?_))))
   refine bodyPost_ret (results_tmp rfl _ _ _) rfl ?_
   have hc : idxP (hasL ks) 0 l = (k : Int) := by rw [← hf.out, idxP_stop hy.out hb.out]
   rw [hc]
   exact does_ret (Mem.only (M := [_, _, _]) HM14.out [2, 0, 0] rfl) rfl rfl
 ·have hge : Hid (l.length ≤ k) := Lib.hid (by have : ¬ (k : Int) < ((l.length : Nat) : Int) := (by simpa using h2); omega)
  clear h2
  refine wp_exit ?_
  refine then_exit (then_exit (block_exit ?_))
  refine then_normal (wp_seq (wQ ?_))
  refine wp_ret (bodyPost_ret (results_tmp rfl _ _ _) rfl ?_)
  have hc : idxP (hasL ks) 0 l = -1 := by rw [← hf.out, idxP_end hge.out]
  rw [hc]
  exact does_ret (Mem.only (M := [_, _, _]) HM1.out [0, 0, 0] rfl) rfl rfl
set_option maxHeartbeats 4000000 in
set_option maxRecDepth 100000 in
theorem dcontf_d (R : At) (v : Value) (l : List ByteArray) (hR : ∀ W H, R.p W H → RowAt elemD W v l) (hll : l.length ≤ 3000) (b : Nat) (K : At) (vk : Value) (ks : List ByteArray) (hK : ∀ W H, K.p W H → RowAt elemS W vk ks) (hs : ks.Pairwise ltK) (hl : ks.length ≤ 3000) : Does Tryz.prog 133 #[v, .func (.func 130) #[] #[.pointer (some ⟨b, 0, none⟩)]] [R, boxT b (.cells #[vk] 81 (0, 0)), K] (.bool (l.any fun x => hasL ks x)) [R, boxT b (.cells #[vk] 81 (0, 0)), K] := by
 intro w H hp
 have HM0 := Lib.hid (mem_refl hp)
 clear hp
 go_enter Tryz.func133, Tryz.ntmps133
 refine wp_seq (wQ ?_)
 refine wp_seq ?_
 have hzz : Hid (decide (0 ≤ idxP (hasL ks) 0 l) = l.any fun x => hasL ks x) := Lib.hid (idxP_has l 0)
 obtain ⟨z, hz'⟩ := int_letter (idxP (hasL ks) 0 l)
 rw [← hzz.out, hz']
 have hz := Lib.hid hz'
 clear hz'
 refine wN [(0, 1), (1, 1), (2, 3), (3, 1), (4, 1)] (wT [0, 1] ?_)
 refine wD2 2 [] [_, _, _] Tryz.call147 (dindexf_d R v l hR hll b K vk ks hK hs hl) HM0 [0, 0, 0] fun W2 hm1 => ?_
 rw [hz.out]
 have HM3 := Lib.hid hm1
 clear hm1
 refine wT [3, 4] ?_
 refine wZ (wp_ret (bodyPost_ret (results_tmp rfl _ _ _) rfl ?_))
 exact does_ret (Mem.only (M := [_, _, _]) HM3.out [0, 0, 0] rfl) rfl rfl
end Go.Proofs.YtcchkkdbagpgjaaGreat
namespace Go.Proofs.YtcchkkdbagpgjaaGreat
open Go Go.RowKit Go.BigFrame
def encK (k : ByteArray) : Value := .iface 9 (.string k)
abbrev hpV (c : Nat) : Value := .iface 158 (.pointer (some ⟨c, 2, none⟩))
@[simp, go_sem] theorem run_assert_key (k : ByteArray) (w : World) : (Instr.typeAssert (.iface 9 (.string k)) 20 9 false).run Tryz.prog w = .ok (.string k) w := by
 simp [Instr.typeAssert, go_sem]
theorem run_asK {W : World} {a : Act} {o : Oper} {x : Operand} {k : ByteArray} (ho : o.op = .typeAssert x 20 9 false) (hx : a.eval x = encK k) : (execOp a.eval o).run Tryz.prog W = .ok (.value (.string k)) W := by
 unfold execOp
 simp only [ho, hx, encK]
 simp [go_sem]
set_option maxHeartbeats 4000000 in
set_option maxRecDepth 100000 in
theorem dlen_d (p : Option Addr) (n m : Nat) : Does Tryz.prog 225 #[.slice p n m] [] (.int .i64 (n : Int)) [] := by
 intro w H hp
 have HM0 := Lib.hid (mem_refl hp)
 clear hp
 go_enter Tryz.func225, Tryz.ntmps225
 refine wp_seq (wQ ?_)
 refine wp_seq (wQ ?_)
 refine wp_ret (bodyPost_ret (results_tmp rfl _ _ _) rfl ?_)
 exact does_ret (Mem.only (M := []) HM0.out [] rfl) rfl rfl
set_option maxHeartbeats 4000000 in
set_option maxRecDepth 100000 in
theorem dless_d (p : Option Addr) (m : Nat) (xs : List ByteArray) (i j : Nat) (x y : ByteArray) (hx' : xs[i]? = some x) (hy' : xs[j]? = some y) : Does Tryz.prog 226 #[.slice p xs.length m, .int .i64 (i : Int), .int .i64 (j : Int)] [rowT elemD (.slice p xs.length m) xs] (.bool (lessK x y)) [rowT elemD (.slice p xs.length m) xs] := by
 intro w H hp
 have HM0 := Lib.hid (mem_refl hp)
 clear hp
 have hx := Lib.hid hx'
 clear hx'
 have hy := Lib.hid hy'
 clear hy'
 go_enter Tryz.func226, Tryz.ntmps226
 refine wp_seq (wQ ?_)
 refine wp_seq ?_
 refine wp_region_M (fun k => k ∈ ([] : List Nat)) [(0, 1), (1, 1), (2, 1), (3, 1), (4, 1), (5, 1), (6, 1), (7, 1), (8, 1), (9, 1)] (by kernel_rfl) (by kernel_rfl) HM0.out ?_
 intro W1 hm2
 have HM3 := Lib.hid hm2
 clear hm2
 refine wT [0, 1] ?_
 refine wI elemD 2 (rowAt_src (Mem.src HM3.out 0 rfl rowT_reads)) (hx.out) fun eb4 eo5 hc6 => ?_
 refine wM 3 (.string x) (hc6 0 _ rfl) Tryz.underlying9 ?_
 refine wT [4, 5] ?_
 refine wI elemD 6 (rowAt_src (Mem.src HM3.out 0 rfl rowT_reads)) (hy.out) fun eb7 eo8 hc9 => ?_
 refine wM 7 (.string y) (hc9 0 _ rfl) Tryz.underlying9 ?_
 refine wR 8 (run_lssS rfl rfl rfl rfl) ?_
 refine wT [9] ?_
 refine wZ (wp_ret (bodyPost_ret (results_tmp rfl _ _ _) rfl ?_))
 exact does_ret (Mem.only (M := [_]) HM3.out [0] rfl) rfl rfl
set_option maxHeartbeats 4000000 in
set_option maxRecDepth 100000 in
theorem dswap_d (p : Option Addr) (m : Nat) (xs : List ByteArray) (i j : Nat) (x y : ByteArray) (hx' : xs[i]? = some x) (hy' : xs[j]? = some y) : Does Tryz.prog 227 #[.slice p xs.length m, .int .i64 (i : Int), .int .i64 (j : Int)] [rowT elemD (.slice p xs.length m) xs] (.tuple #[]) [rowT elemD (.slice p xs.length m) (swapL xs i j)] := by
 intro w H hp
 have HM0 := Lib.hid (mem_refl hp)
 clear hp
 have hil := (List.getElem?_eq_some_iff.1 hx').1
 have hjl := (List.getElem?_eq_some_iff.1 hy').1
 obtain ⟨z, hz'⟩ : ∃ z, (xs.set i y)[j]? = some z := ⟨_, List.getElem?_eq_getElem (by rw [List.length_set]; exact hjl)⟩
 have hx := Lib.hid hx'
 clear hx'
 have hy := Lib.hid hy'
 clear hy'
 have hz := Lib.hid hz'
 clear hz'
 obtain ⟨g, rfl⟩ := Mem.rowPtr HM0.out (k := 0) rfl (by omega)
 go_enter Tryz.func227, Tryz.ntmps227
 refine wp_region_M (fun k => k ∈ ([] : List Nat)) [(0, 1), (1, 1), (2, 0), (3, 0), (4, 1), (5, 1), (6, 1), (7, 1), (8, 1), (9, 1), (10, 1), (11, 1), (12, 1), (13, 3), (14, 1), (15, 3)] (by kernel_rfl) (by kernel_rfl) HM0.out ?_
 intro W1 hm2
 have HM3 := Lib.hid hm2
 clear hm2
 refine wT [0, 1] ?_
 refine wA [2, 3] ?_
 refine wT [4, 5] ?_
 refine wI elemD 6 (rowAt_src (Mem.src HM3.out 0 rfl rowT_reads)) (hy.out) fun eb4 eo5 hc6 => ?_
 refine wM 7 (.string y) (hc6 0 _ rfl) Tryz.underlying9 ?_
 refine wT [8, 9] ?_
 refine wI elemD 10 (rowAt_src (Mem.src HM3.out 0 rfl rowT_reads)) (hx.out) fun eb7 eo8 hc9 => ?_
 refine wM 11 (.string x) (hc9 0 _ rfl) Tryz.underlying9 ?_
 refine wpS_addrE (E := elemD) (i := 12) (d := some 18) (j := i) rfl (by rfl) rfl rfl rfl HM3.out 0 rfl (hil) rfl ?_
 rintro _ ⟨⟩
 simp only [Act.put, List.setIfInBounds_toArray, List.set_cons_succ, List.set_cons_zero]
 refine wpS_setE (E := elemD) (i := 13) (j := i) (q := 0) (v := .string y) (x0 := x) (y0 := y) (L2 := []) rfl (by rfl) rfl rfl rfl rfl (by kernel_rfl) rfl HM3.out 0 rfl rfl rfl (by decide) (hx.out) rfl covS_nil rfl ?_
 rintro W11 hm10 -
 have HM12 := Lib.hid hm10
 clear hm10
 refine wpS_addrE (E := elemD) (i := 14) (d := some 19) (j := j) rfl (by rfl) rfl rfl rfl HM12.out 0 rfl (by first | exact hjl | (rw [List.length_set]; exact hjl)) rfl ?_
 rintro _ ⟨⟩
 simp only [Act.put, List.setIfInBounds_toArray, List.set_cons_succ, List.set_cons_zero]
 refine wpS_setE (E := elemD) (i := 15) (j := j) (q := 0) (v := .string x) (x0 := z) (y0 := x) (L2 := []) rfl (by rfl) rfl rfl rfl rfl (by kernel_rfl) rfl HM12.out 0 rfl rfl rfl (by decide) (hz.out) rfl covS_nil rfl ?_
 rintro W14 hm13 -
 have HM15 := Lib.hid hm13
 clear hm13
 refine wpS_nil ?_
 refine bodyPost_end (results_none rfl _ _ _) rfl ?_
 have hq := (Mem.only (M := [_]) HM15.out [0] rfl)
 rw [← swapL_some hx.out hy.out] at hq
 exact does_ret hq rfl rfl
set_option maxHeartbeats 4000000 in
set_option maxRecDepth 100000 in
theorem dpush_d (c : Nat) (n : Int) (k : ByteArray) (xs : List ByteArray) (x : ByteArray) (hl : xs.length < 2000) : Does Tryz.prog 229 #[.pointer (some ⟨c, 2, none⟩), encK x] [dueT c n k xs] (.tuple #[]) [dueT c n k (xs ++ [x])] := by
 intro w H hp
 have HM0 := Lib.hid (mem_refl hp)
 clear hp
 obtain ⟨p, m, HM1'⟩ := Mem.due HM0.out
 clear HM0
 have HM0 := Lib.hid HM1'
 clear HM1'
 go_enter Tryz.func229, Tryz.ntmps229
 refine wp_region_M (fun k => k ∈ ([c] : List Nat)) [(0, 0), (1, 0), (2, 0), (3, 2), (4, 1), (5, 3), (6, 3), (7, 3), (8, 1), (9, 4)] (by kernel_rfl) (by kernel_rfl) HM0.out ?_
 intro W1 hm2
 have HM3 := Lib.hid hm2
 clear hm2
 refine wA [0, 1, 2] ?_
 have Cbx := Mem.cell HM3.out 0 rfl
 refine wS [3] ?_
 clear Cbx
 refine wT [4] ?_
 refine wpS_still (i := 5) (d := some 9) (v := .string x) rfl (by rfl) (run_asK rfl rfl) rfl ?_
 simp only [Act.put, List.setIfInBounds_toArray, List.set_cons_succ, List.set_cons_zero]
 refine wpS_build1 elemD (i := 6) (dd := 10) (y := x) rfl (by rfl) rfl rfl rfl (by decide) HM3.out (covS_box 0 rfl covS_nil) rfl ?_
 rintro b7 W8 hm9 hg10
 have HM11 := Lib.hid hm9
 clear hm9
 simp only [Act.put, List.setIfInBounds_toArray, List.set_cons_succ, List.set_cons_zero]
 refine wpS_append (E := elemD) (i := 7) (d := some 11) (L2 := [_, _]) rfl (by rfl) rfl HM11.out 2 rfl rfl (HM11.out.src 0 rfl rowT_reads) rfl (by show (_ + 1) * 16 ≤ 140737488355328; omega) rfl (covS_box 1 rfl covS_nil) rfl ?_
 rintro u15 W16 hm17 hg18
 have HM19 := Lib.hid hm17
 clear hm17
 simp only [Act.put, List.setIfInBounds_toArray, List.set_cons_succ, List.set_cons_zero]
 obtain ⟨up, uc, hup⟩ := row_form (Mem.src HM19.out 0 rfl rowT_reads)
 subst hup
 refine wT [8] ?_
 refine wpS_store14 (i := 9) (L2 := [_, _]) (cs' := [.int .i64 n, .string k, .slice up (xs ++ [x]).length uc]) rfl (by rfl) rfl rfl rfl rfl (by kernel_rfl) rfl HM19.out 2 rfl rfl rfl rfl  rfl ?_
 rintro W21 hm20
 have HM23 := Lib.hid hm20
 clear hm20
 refine wpS_nil ?_
 refine bodyPost_end (results_none rfl _ _ _) rfl ?_
 exact does_ret (Mem.toDue (by rw [List.length_append, List.length_singleton]) (Mem.only (M := [_, _]) HM23.out [0, 0] rfl)) rfl rfl
theorem Mem.rowLess {α : Type} {P : Program} {E : Elem P α} {L : List At} {H0 : Nat → Prop} {w W : World} {p : Option Addr} {n c : Nat} {xs : List α} {x : α} (h : Mem (rowT E (.slice p n c) (xs ++ [x]) :: L) H0 w W) : Mem (rowT E (.slice p xs.length c) xs :: L) H0 w W := by
 have hlen : (xs ++ [x]).length = xs.length + 1 := List.length_append
 obtain ⟨g, cur, rfl, hn, hc, hm, hl, ht, h3⟩ := h.rowOpen (by rw [hlen]; exact Nat.succ_pos _)
 subst hn
 have h2 := take_take_cells (xs := xs ++ [x]) (i := xs.length) ht (by rw [hlen]; exact Nat.le_succ _)
 rw [List.take_left] at h2
 exact Mem.rowClose rfl (by rw [hlen] at hc; exact Nat.le_of_succ_le hc) hm hl h2 h3
set_option maxHeartbeats 4000000 in
set_option maxRecDepth 100000 in
theorem dpop_d (c : Nat) (n : Int) (k : ByteArray) (xs : List ByteArray) (x : ByteArray) (hl : xs.length < 2000) : Does Tryz.prog 228 #[.pointer (some ⟨c, 2, none⟩)] [dueT c n k (xs ++ [x])] (encK x) [dueT c n k xs] := by
 intro w H hp
 have HM0 := Lib.hid (mem_refl hp)
 clear hp
 obtain ⟨p, m, HM1'⟩ := Mem.due HM0.out
 clear HM0
 rw [show (xs ++ [x]).length = xs.length + 1 from List.length_append] at HM1'
 have HM0 := Lib.hid HM1'
 clear HM1'
 have hle : xs.length ≤ m := by have := row_cap (Mem.src HM0.out 1 rfl rowT_reads); rw [List.length_append] at this; omega
 have hx : Hid ((xs ++ [x])[xs.length]? = some x) := Lib.hid (get_last xs x)
 have hsub : Hid (wrap64 (xs.length : Int) = (xs.length : Int)) := Lib.hid (by unfold wrap64; omega)
 go_enter Tryz.func228, Tryz.ntmps228
 refine wp_seq (wQ ?_)
 refine wp_seq ?_
 have Cbx := Mem.cell HM0.out 0 rfl
 refine wQ ?_
 clear Cbx
 refine wp_seq (wN [(0, 1), (1, 1), (2, 1), (3, 1), (4, 1), (5, 1), (6, 1)] ?_)
 have Cbx := Mem.cell HM0.out 0 rfl
 refine wT [0, 1, 2, 3] ?_
 clear Cbx
 refine wI elemD 4 (rowAt_src (Mem.src HM0.out 1 rfl rowT_reads)) (hx.out) fun eb1 eo2 hc3 => ?_
 refine wM 5 (.string x) (hc3 0 _ rfl) Tryz.underlying9 ?_
 refine wT [6] ?_
 refine wZ (wp_seq (wN [(0, 1), (1, 1), (2, 1), (3, 1), (4, 1), (5, 1), (6, 1), (7, 3)] ?_))
 have Cbx := Mem.cell HM0.out 0 rfl
 refine wT [0, 1, 2, 3, 4] ?_
 clear Cbx
 refine wR 5 (run_headE (E := elemD) (k := xs.length) hle rfl rfl rfl) ?_
 refine wT [6] ?_
 refine wYh 7 _ [_] [.int .i64 n, .string k, .slice p xs.length m] HM0 0 fun W5 HM6 => ?_
 refine wZ (wp_seq (wQ ?_))
 refine wp_ret (bodyPost_ret (results_tmp rfl _ _ _) rfl ?_)
 exact does_ret (Mem.toDue rfl (Mem.swap2 (Mem.rowLess (Mem.only (M := [_, _]) HM6.out [1, 0] rfl)))) rfl rfl
end Go.Proofs.YtcchkkdbagpgjaaGreat
namespace Go.Proofs.YtcchkkdbagpgjaaGreat
open Go Go.RowKit Go.BigFrame
def KAt (c : Nat) (n : Int) (k : ByteArray) (L : List At) (H0 : Nat → Prop) (w : World) (xs : List ByteArray) (W : World) : Prop := Mem (dueT c n k xs :: L) H0 w W ∧ xs.length ≤ 2000
theorem load_due {c : Nat} {v : Value} {W : World} (h : W.cell? ⟨c, 2, none⟩ = some v) : (loadVar 146 ⟨c, 2, none⟩).run Tryz.prog W = .ok v W := by
 simp [loadVar, isAgg, go_sem, h]
theorem kheap (c : Nat) (n : Int) (k : ByteArray) (L : List At) (H0 : Nat → Prop) (w : World) : HeapIf Tryz.prog (hpV c) lessK (KAt c n k L H0 w) where
 size xs W h := by have := h.2; omega
 len xs W h := by
  obtain ⟨p, m, hm⟩ := Mem.due h.1
  refine via_value (elem := 146) (f := 225) Tryz.underlying158 (by kernel_rfl) (load_due (Mem.cell hm 0 rfl 2)) Tryz.call225 ?_
  exact ((dlen_d p xs.length m).mem hm [] rfl covS_nil).mono fun e W' ⟨he, h2, _⟩ => ⟨he, Mem.toDue rfl h2, h.2⟩
 less xs W i j x y h hi hj := by
  obtain ⟨p, m, hm⟩ := Mem.due h.1
  refine via_value (elem := 146) (f := 226) Tryz.underlying158 (by kernel_rfl) (load_due (Mem.cell hm 0 rfl 2)) Tryz.call226 ?_
  exact ((dless_d p m xs i j x y hi hj).mem hm [1] rfl covS_nil).mono fun e W' ⟨he, h2, _⟩ => ⟨he, Mem.toDue rfl (Mem.swap2 h2), h.2⟩
 swap xs W i j x y h hi hj := by
  obtain ⟨p, m, hm⟩ := Mem.due h.1
  refine via_value (elem := 146) (f := 227) Tryz.underlying158 (by kernel_rfl) (load_due (Mem.cell hm 0 rfl 2)) Tryz.call227 ?_
  exact ((dswap_d p m xs i j x y hi hj).mem hm [1] rfl covS_nil).mono fun e W' ⟨he, h2, _⟩ => ⟨⟨_, he⟩, Mem.toDue (swapL_len xs i j) (Mem.swap2 h2), by rw [swapL_len]; exact h.2⟩
theorem kends (c : Nat) (n : Int) (k : ByteArray) (L : List At) (H0 : Nat → Prop) (w : World) : HeapEnds Tryz.prog (hpV c) encK 2000 (KAt c n k L H0 w) where
 push xs x W h hlt := by
  refine via_pointer (n := Tryz.prog.types.size + Made.depth - 1 + 1) (by have : 0 < Made.depth := (by decide); omega) (method_pointer (f := 229) (elem := 146) Tryz.underlying158 (by kernel_rfl)) Tryz.call229 ?_
  exact ((dpush_d c n k xs x hlt).mem h.1 [0] rfl covS_nil).mono fun e W' ⟨he, h2, _⟩ => ⟨⟨_, he⟩, h2, by rw [List.length_append]; exact hlt⟩
 pop xs x W h := by
  have hl : xs.length + 1 ≤ 2000 := by have := h.2; rwa [List.length_append] at this
  refine via_pointer (n := Tryz.prog.types.size + Made.depth - 1 + 1) (by have : 0 < Made.depth := (by decide); omega) (method_pointer (f := 228) (elem := 146) Tryz.underlying158 (by kernel_rfl)) Tryz.call228 ?_
  exact ((dpop_d c n k xs x hl).mem h.1 [0] rfl covS_nil).mono fun e W' ⟨he, h2, _⟩ => ⟨he, h2, by omega⟩
theorem hpush_d (c : Nat) (n : Int) (k : ByteArray) (D : List ByteArray) (x : ByteArray) (hl : D.length < 2000) : DoesU Tryz.prog 88 #[hpV c, encK x] [hdT c n k D] (fun _ => [hdT c n k (D ++ [x])]) := fun W H hs => by
 obtain ⟨xs, h1, h2, hm⟩ := Mem.hd (L := []) (mem_refl hs)
 have hx : xs.length < 2000 := by rw [h2.length_eq]; exact hl
 refine (heapPush_any lessK_ordered (kheap c n k [] H W) (kends c n k [] H W) xs x W ⟨hm, Nat.le_of_lt hx⟩ h1 hx).mono ?_
 rintro e W' ⟨⟨v, he⟩, ys, ⟨hy, _⟩, hp, hh⟩
 exact ⟨v, he, Mem.toHd hh (hp.trans (h2.append_right _)) hy⟩
theorem hpop_d (c : Nat) (n : Int) (k : ByteArray) (D : List ByteArray) (x : ByteArray) (hl : D.length < 2000) (hs : (x :: D).Pairwise ltK) : Does Tryz.prog 117 #[hpV c] [hdT c n k (x :: D)] (encK x) [hdT c n k D] := fun W H hst => by
 obtain ⟨xs, h1, h2, hm⟩ := Mem.hd (L := []) (mem_refl hst)
 have hx : xs.length = D.length + 1 := h2.length_eq
 refine (heapPop_any lessK_ordered (kheap c n k [] H W) (kends c n k [] H W) xs W ⟨hm, by omega⟩ h1 (by omega)).mono ?_
 rintro e W' ⟨y, ys, he, ⟨hy, _⟩, hp, hle, hh⟩
 have hp2 : (y :: ys).Perm (x :: D) := hp.trans h2
 have hyx : y = x := by
  rcases List.mem_cons.1 (hp2.subset List.mem_cons_self) with h | h
  ·exact h
  ·exact absurd ((List.pairwise_cons.1 hs).1 y h) (lessK_le.1 (hle x (h2.symm.subset List.mem_cons_self)))
 subst hyx
 exact ⟨he, Mem.toHd hh hp2.cons_inv hy⟩
end Go.Proofs.YtcchkkdbagpgjaaGreat
