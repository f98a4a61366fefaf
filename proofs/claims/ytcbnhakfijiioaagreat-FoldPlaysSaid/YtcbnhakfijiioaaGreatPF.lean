/- PF: FrD, FrE. -/
import Derived.Test.YtcbnhakfijiioaaGreatFrC
import Derived.Test.YtcbnhakfijiioaaGreatFdX
import Derived.Test.YtcbnhakfijiioaaGreatPA
namespace Go.Proofs.YtcbnhakfijiioaaGreat
open Go Go.RowKit Go.BigFrame
set_option maxHeartbeats 4000000 in
set_option maxRecDepth 100000 in
theorem ropen_d (dl : Nat) (X : Lg) : DoesU Tryz.prog 10 #[.pointer (some ⟨dl, 0, none⟩)] [rfT dl X []] (fun u => [rvN u dl noVt, rlT dl X]) := by
 intro w H hp
 have HM0 := Lib.hid (mem_refl hp)
 clear hp
 obtain ⟨p, m, hys', HM1'⟩ := Mem.rf HM0.out
 clear HM0
 have HM0 := Lib.hid (show Mem [boxT dl (.cells #[.int .i64 (X.room : Int), .int .i64 (X.sure : Int), .slice p 0 m] 93 (0, 0)), rowT elemDx (.slice p 0 m) []] H w w from HM1')
 clear HM1'
 have hys := Lib.hid hys'
 clear hys'
 go_enter Tryz.func10, Tryz.ntmps10
 refine wp_seq (wQ ?_)
 refine wp_seq (wN [(0, 1), (1, 1), (2, 3), (3, 1)] (wT [0] ?_))
 refine wR 1 (v := .agg (rvC dl 0 0 false noR (.slice none 0 0) (.slice none 0 0)).toArray) (by kernel_rfl) ?_
 refine wBh 2 HM0 fun d W2 HM3 => ?_
 refine wT [3] ?_
 refine wZ (wp_seq (wp_seq ?_))
 have Clb := Mem.cell HM3.out 1 rfl
 refine wQ ?_
 clear Clb
 refine wp_block ?_
 refine wp_loop_F [5, 14, 15, 16, 17, 18, 19, 20, 21] (fun n vs W' => n = 0 ∧ vs 14 = .int .i64 0 ∧ Mem [boxT d (.cells (rvC dl 0 0 false noR (.slice none 0 0) (.slice none 0 0)).toArray 91 (0, 0)), boxT dl (.cells #[.int .i64 (X.room : Int), .int .i64 (X.sure : Int), .slice p 0 m] 93 (0, 0)), rowT elemDx (.slice p 0 m) []] H w W') (n0 := 0) ?_ ?_
 ·exact ⟨rfl, rfl, (Mem.only (M := [_, _, _]) HM3.out [0, 0, 0] rfl)⟩
 rintro n vs W' ⟨rfl, e14, hm⟩
 simp only [putAll, List.map_cons, List.map_nil, Act.put, List.setIfInBounds_toArray, List.set_cons_succ, List.set_cons_zero]
 rw [e14]
 clear e14
 have HM4 := Lib.hid hm
 clear hm
 refine wp_seq (wQ ?_)
 refine wp_seq (wp_cond_false rfl (wp_exit ?_))
 refine then_exit (then_exit (block_exit ?_))
 refine then_normal (wp_seq (wQ ?_))
 refine wp_ret (bodyPost_ret (results_tmp rfl _ _ _) rfl ?_)
 exact doesU_ret (post := fun u => [rvN u dl noVt, rlT dl X]) (Mem.addEx d (Mem.addPr rfl (Mem.toRv (S := noVt) ⟨[], none, 0, none, 0, listT []⟩ RsOk.start (Mem.only (M := [_, _, _, _]) (Mem.nilRow elemPx (Mem.addNil (Mem.toRl (Mem.toRf (ys := []) hys.out rfl rfl rfl (Mem.only (M := [_, _, _]) HM4.out [1, 1, 0] rfl))))) [3, 0, 0, 0] rfl)))) rfl
theorem results_tmp4 {fn : Func} {t u v x : Tmp} (h : fn.results = #[.tmp t, .tmp u, .tmp v, .tmp x]) (tmps : Array Value) (P : Program) (w : World) : (results fn tmps).run P w = .ok (.tuple #[tmps.getD t undef, tmps.getD u undef, tmps.getD v undef, tmps.getD x undef]) w := by
 unfold results
 rw [h]
 simp
def cuT (c : Nat) (F : Fd) : At := exT fun s : Option Addr × Nat => [boxT c (.cells #[.int .i64 F.part, .bool F.any, .string F.last, .slice s.1 F.due.length s.2] 62 (0, 0)), rowT elemS (.slice s.1 F.due.length s.2) F.due]
def cuN (u : Value) (F : Fd) : At := exT fun c : Nat => [prT (u = .pointer (some ⟨c, 0, none⟩)), cuT c F]
def lookF (F : Fd) (ks : List ByteArray) : ByteArray × List ByteArray × Bool × Bool :=
 match popD ks F.due with
 | (some k, r) => (k, r, false, true)
 | (none, _) =>
  match ks.find? (newK F) with
  | some k => (k, [], true, true)
  | none => (⟨#[]⟩, [], false, false)
def lkT (A : At) (u : Value) (x : ByteArray × List ByteArray × Bool × Bool) : At := exT fun s : Option Addr × Nat => [prT (u = .tuple #[.string x.1, .slice s.1 x.2.1.length s.2, .bool x.2.2.1, .bool x.2.2.2] ∧ Reads elemS A (.slice s.1 x.2.1.length s.2) x.2.1)]
section
variable {L : List At} {H0 : Nat → Prop} {w W : World} {c : Nat} {F : Fd} {u : Value}
theorem Mem.cu (h : Mem (cuT c F :: L) H0 w W) : ∃ p m, Mem (boxT c (.cells #[.int .i64 F.part, .bool F.any, .string F.last, .slice p F.due.length m] 62 (0, 0)) :: rowT elemS (.slice p F.due.length m) F.due :: L) H0 w W := by
 obtain ⟨s, h⟩ := Mem.ex h
 exact ⟨s.1, s.2, h⟩
theorem Mem.toCu {p : Option Addr} {m : Nat} (h : Mem (boxT c (.cells #[.int .i64 F.part, .bool F.any, .string F.last, .slice p F.due.length m] 62 (0, 0)) :: rowT elemS (.slice p F.due.length m) F.due :: L) H0 w W) : Mem (cuT c F :: L) H0 w W := Mem.addEx (p, m) h
theorem Mem.cuN (h : Mem (cuN u F :: L) H0 w W) : ∃ c, u = .pointer (some ⟨c, 0, none⟩) ∧ Mem (cuT c F :: L) H0 w W := by
 obtain ⟨s, h⟩ := Mem.ex h
 obtain ⟨hu, h⟩ := Mem.pr h
 exact ⟨s, hu, h⟩
theorem Mem.lk {A : At} {k : ByteArray} {D : List ByteArray} {fr ok : Bool} (h : Mem (lkT A u (k, D, fr, ok) :: L) H0 w W) : ∃ p m, u = .tuple #[.string k, .slice p D.length m, .bool fr, .bool ok] ∧ Reads elemS A (.slice p D.length m) D ∧ Mem L H0 w W := by
 obtain ⟨s, h⟩ := Mem.ex h
 obtain ⟨hu, h⟩ := Mem.pr h
 exact ⟨s.1, s.2, hu.1, hu.2, h⟩
theorem Mem.toLk {A : At} {k : ByteArray} {D : List ByteArray} {fr ok : Bool} {p : Option Addr} {m : Nat} (hr : Reads elemS A (.slice p D.length m) D) (h : Mem L H0 w W) : Mem (lkT A (.tuple #[.string k, .slice p D.length m, .bool fr, .bool ok]) (k, D, fr, ok) :: L) H0 w W := Mem.addEx (p, m) (Mem.addPr ⟨rfl, hr⟩ h)
end
theorem tail_reads {A : At} {p : Option Addr} {m : Nat} {y : ByteArray} {D : List ByteArray} (h : Reads elemS A (.slice p (y :: D).length m) (y :: D)) : Reads elemS A (.slice (if m = 1 then p else p.map fun a => a.add (1 * elemS.k)) D.length (m - 1)) D := fun W H hp => (h W H hp).drop (m := 1) (Nat.succ_le_succ (Nat.zero_le _))
theorem hasL_take {l : List ByteArray} {t y : ByteArray} {k : Nat} (hy : l[k]? = some y) (h : hasL (l.take k) t = false) (hne : y ≠ t) : hasL (l.take (k + 1)) t = false := by
 unfold hasL at *
 rw [List.take_add_one, hy, Option.toList_some, List.any_append, h, List.any_cons, decide_eq_false hne]
 rfl
theorem find_step {l : List ByteArray} {p : ByteArray → Bool} {i : Nat} {y : ByteArray} (hy : l[i]? = some y) (h : p y = false) : (l.drop i).find? p = (l.drop (i + 1)).find? p := by
 rw [drop_key hy, List.find?_cons, h]
theorem find_hit {l : List ByteArray} {p : ByteArray → Bool} {i : Nat} {y : ByteArray} (hy : l[i]? = some y) (h : p y = true) : (l.drop i).find? p = some y := by
 rw [drop_key hy, List.find?_cons, h]
theorem insK_at {k : ByteArray} : ∀ {l : List ByteArray}, k ∉ l → insK k l = l.take (lowN l k) ++ k :: l.drop (lowN l k)
 | [], _ => rfl
 | x :: l, h => by
  have h1 : k ≠ x := fun e => h (e ▸ List.mem_cons_self)
  have h2 : k ∉ l := fun e => h (List.mem_cons_of_mem _ e)
  unfold insK lowN
  rw [if_neg h1]
  by_cases hx : ltK k x
  ·rw [if_pos hx, if_neg (fun h3 => ltK_irrefl _ (ltK_trans hx h3))]
   rfl
  ·have hx2 : ltK x k := by
    rcases ltK_tri k x with h3 | h3 | h3
    ·exact absurd h3 hx
    ·exact absurd h3 h1
    ·exact h3
   rw [if_neg hx, if_pos hx2, insK_at h2]
   rfl
theorem lowN_of : ∀ {l : List ByteArray} {k : ByteArray} {i : Nat}, (∀ j p, j < i → l[j]? = some p → ltK p k) → (∀ p, l[i]? = some p → ¬ ltK p k) → i ≤ l.length → lowN l k = i
 | [], _, i, _, _, h => by
  have h0 : i = 0 := Nat.le_zero.1 h
  subst h0
  rfl
 | q :: l, k, i, h1, h2, h3 => by
  unfold lowN
  cases i with
  | zero => rw [if_neg (h2 q rfl)]
  | succ i => rw [if_pos (h1 0 q (Nat.succ_pos _) rfl), lowN_of (i := i) (fun j p hj hp => h1 (j + 1) p (Nat.succ_lt_succ hj) (by rw [List.getElem?_cons_succ]; exact hp)) (fun p hp => h2 p (by rw [List.getElem?_cons_succ]; exact hp)) (Nat.le_of_succ_le_succ h3)]
theorem low_next {l : List ByteArray} {k : ByteArray} {i : Nat} {y : ByteArray} (h : ∀ j p, j < i → l[j]? = some p → ltK p k) (hy : l[i]? = some y) (hl : ltK y k) : ∀ j p, j < i + 1 → l[j]? = some p → ltK p k := fun j p hj hp => by
 rcases Nat.lt_or_eq_of_le (Nat.le_of_lt_succ hj) with h1 | rfl
 ·exact h j p h1 hp
 ·rw [hy] at hp
  obtain rfl := Option.some.inj hp
  exact hl
set_option maxHeartbeats 4000000 in
set_option maxRecDepth 100000 in
theorem rnewc_d (n : Int) (h : 0 ≤ n ∧ n < 16) : DoesU Tryz.prog 13 #[.int .i64 n] [] (fun u => [cuN u (newF n)]) := by
 intro w H hp
 have HM0 := Lib.hid (mem_refl hp)
 clear hp
 go_enter Tryz.func13, Tryz.ntmps13
 refine wp_seq (wQ ?_)
 refine wp_seq (wp_seq ?_)
 have g1 : decide (n < (0 : Int)) = false := decide_eq_false (by omega)
 have g2 : decide ((16 : Int) ≤ n) = false := decide_eq_false (by omega)
 ·skip
  refine wQ ?_
  refine wp_cond_false rfl (wp_skip (then_normal (wp_seq (wN [(0, 1), (1, 1), (2, 3), (3, 1)] (wT [0, 1] ?_)))))
  refine wBh 2 HM0 fun b3 W2 HM4 => ?_
  refine wT [3] ?_
  refine wZ (wp_ret (bodyPost_ret (results_tmp rfl _ _ _) rfl ?_))
  exact doesU_ret (post := fun u => [cuN u (newF n)]) (Mem.addEx b3 (Mem.addPr rfl (Mem.toCu (F := newF n) (p := none) (m := 0) (Mem.swap2 (Mem.nilRow elemS (Mem.only (M := [_]) HM4.out [0] rfl)))))) rfl
set_option maxHeartbeats 4000000 in
set_option maxRecDepth 100000 in
theorem rnewc0_d (n : Int) (h : ¬ (0 ≤ n ∧ n < 16)) : Does Tryz.prog 13 #[.int .i64 n] [] (.pointer none) [] := by
 intro w H hp
 have HM0 := Lib.hid (mem_refl hp)
 clear hp
 go_enter Tryz.func13, Tryz.ntmps13
 refine wp_seq (wQ ?_)
 refine wp_seq (wp_seq ?_)
 by_cases h1 : n < 0
 ·have g1 : decide (n < (0 : Int)) = true := decide_eq_true h1
  clear h
  refine wQ ?_
  refine wp_cond_true rfl (wp_seq (wQ ?_))
  refine wp_ret (then_ret (bodyPost_ret (results_tmp rfl _ _ _) rfl ?_))
  exact does_ret (Mem.only (M := []) HM0.out [] rfl) rfl rfl
 ·have g1 : decide (n < (0 : Int)) = false := decide_eq_false h1
  have g2 : decide ((16 : Int) ≤ n) = true := decide_eq_true (by omega)
  clear h
  refine wQ ?_
  refine wp_cond_true rfl (wp_seq (wQ ?_))
  refine wp_ret (then_ret (bodyPost_ret (results_tmp rfl _ _ _) rfl ?_))
  exact does_ret (Mem.only (M := []) HM0.out [] rfl) rfl rfl
set_option maxHeartbeats 4000000 in
set_option maxRecDepth 100000 in
theorem rin_d (R : At) (v : Value) (l : List ByteArray) (hR : ∀ W H, R.p W H → RowAt elemS W v l) (hll : l.length ≤ 3000) (t : ByteArray) : Does Tryz.prog 42 #[v, .string t] [R] (.bool (hasL l t)) [R] := by
 intro w H hp
 have HM0 := Lib.hid (mem_refl hp)
 clear hp
 obtain ⟨p, cap, rfl, -⟩ := (HM0.out.row 0 rfl hR).form
 go_enter Tryz.func42, Tryz.ntmps42
 refine wp_seq (wQ ?_)
 refine wp_seq (wp_seq (wQ ?_))
 refine wp_block ?_
 refine wp_loop_F [4, 6, 9, 10, 11, 12, 13, 14, 15, 16] (fun n vs W' => ∃ k : Nat, n = l.length - k ∧ vs 9 = .int .i64 (k : Int) ∧ k ≤ l.length ∧ hasL (l.take k) t = false ∧ Mem [R] H w W') (n0 := l.length) ?_ ?_
 ·exact ⟨0, rfl, rfl, Nat.zero_le _, rfl, (Mem.only (M := [_]) HM0.out [0] rfl)⟩
 rintro n vs W' ⟨k, rfl, e9, hk, hf, hm⟩
 simp only [putAll, List.map_cons, List.map_nil, Act.put, List.setIfInBounds_toArray, List.set_cons_succ, List.set_cons_zero]
 rw [e9]
 clear e9
 have hf := Lib.hid hf
 have HM1 := Lib.hid hm
 clear hm
 refine wp_seq (wQ ?_)
 refine wp_seq ?_
 refine wp_cond_split rfl (fun h2 => ?_) (fun h2 => ?_)
 ·have hk1 : k + 1 ≤ l.length := by have : (k : Int) < ((l.length : Nat) : Int) := (by simpa using h2); omega
  clear h2
  obtain ⟨y, hy'⟩ : ∃ y, l[k]? = some y := ⟨_, List.getElem?_eq_getElem (hk1)⟩
  have hy := Lib.hid hy'
  clear hy'
  refine wp_skip (then_normal (wp_seq (wp_block (wp_seq (wN [(0, 1), (1, 1), (2, 1)] ?_)))))
  refine wI elemS 0 (HM1.out.row 0 rfl hR) (hy.out) fun eb3 eo4 hc5 => ?_
  refine wM 1 (.string y) (hc5 0 _ rfl) Tryz.underlying9 ?_
  refine wT [2] ?_
  refine wZ (wp_seq ?_)
  by_cases hxy : y = t
  ·replace hxy := Lib.hid hxy
   refine wN [(0, 1), (1, 1), (2, 1)] (wT [0, 1] ?_)
   refine wR 2 (run_eqS (b := true) (decide_eq_true hxy.out) rfl rfl rfl) ?_
   refine wZ (wp_cond_true rfl (wp_seq (wQ ?_)))
   refine wp_ret ?_
   refine block_ret (then_ret (then_ret (block_ret (then_ret ?_))))
   refine bodyPost_ret (results_tmp rfl _ _ _) rfl ?_
   have hc : hasL l t = true := hasL_iff.2 (hxy.out ▸ List.mem_of_getElem? hy.out)
   rw [hc]
   exact does_ret (Mem.only (M := [_]) HM1.out [0] rfl) rfl rfl
  ·replace hxy := Lib.hid hxy
   refine wN [(0, 1), (1, 1), (2, 1)] (wT [0, 1] ?_)
   refine wR 2 (run_eqS (b := false) (decide_eq_false hxy.out) rfl rfl rfl) ?_
   refine wZ (wp_cond_false rfl (wp_skip (block_normal (then_normal (wQ ?_)))))
   refine ⟨by kernel_rfl, ?_⟩
   refine ⟨l.length - (k + 1), by omega, k + 1, rfl, rfl, hk1, ?_, (Mem.only (M := [_]) HM1.out [0] rfl)⟩
   exact hasL_take hy.out hf.out hxy.out
 ·have hge : Hid (l.length ≤ k) := Lib.hid (by have : ¬ (k : Int) < ((l.length : Nat) : Int) := (by simpa using h2); omega)
  clear h2
  refine wp_exit ?_
  refine then_exit (then_exit (block_exit ?_))
  refine then_normal (wp_seq (wQ ?_))
  refine wp_ret (bodyPost_ret (results_tmp rfl _ _ _) rfl ?_)
  have hc : hasL l t = false := by
   have := hf.out
   rwa [List.take_of_length_le hge.out] at this
  rw [hc]
  exact does_ret (Mem.only (M := [_]) HM1.out [0] rfl) rfl rfl
set_option maxHeartbeats 4000000 in
set_option maxRecDepth 100000 in
theorem rlook_d (c : Nat) (q : Int) (an : Bool) (la : ByteArray) (du : List ByteArray) (pd : Option Addr) (cd : Nat) (d dl : Nat) (S : Vt) (hV : VtOk S) (hl : S.b.length ≤ 3000) (s : Rs) (hs' : RsOk s S) : DoesU Tryz.prog 37 #[.pointer (some ⟨c, 0, none⟩), .pointer (some ⟨d, 0, none⟩)] [boxT c (.cells #[.int .i64 q, .bool an, .string la, .slice pd du.length cd] 62 (0, 0)), rowT elemS (.slice pd du.length cd) du, boxT d (.cells (rvC dl S.inc S.dots S.has S.ring (.slice s.rp S.ring.p.2.2.length s.rc) (.slice s.p s.ys.length s.c)).toArray 91 (0, 0)), rowT elemPx (.slice s.p s.ys.length s.c) s.ys] (fun u => [lkT (rowT elemS (.slice pd du.length cd) du) u (lookF (⟨q, an, la, du⟩ : Fd) (keysV S q)), boxT c (.cells #[.int .i64 q, .bool an, .string la, .slice pd du.length cd] 62 (0, 0)), rowT elemS (.slice pd du.length cd) du, boxT d (.cells (rvC dl S.inc S.dots S.has S.ring (.slice s.rp S.ring.p.2.2.length s.rc) (.slice s.p s.ys.length s.c)).toArray 91 (0, 0)), rowT elemPx (.slice s.p s.ys.length s.c) s.ys]) := by
 intro w H hp
 have HM0 := Lib.hid (mem_refl hp)
 clear hp
 have hs := Lib.hid hs'
 clear hs'
 have hyl : s.ys.length ≤ 3000 := by rw [hs.out.len]; exact hl
 obtain ⟨ks, hks'⟩ : ∃ ks, keysV S q = ks := ⟨_, rfl⟩
 have hkl : ks.length ≤ 3000 := by rw [← hks']; exact keysV_3 _ hl
 have hks := Lib.hid hks'
 clear hks'
 go_enter Tryz.func37, Tryz.ntmps37
 refine wp_seq (wQ ?_)
 refine wp_seq (wN [(0, 1), (1, 1), (2, 1), (3, 1), (4, 1), (5, 3), (6, 1)] ?_)
 have Ccb := Mem.cell HM0.out 0 rfl
 refine wT [0, 1, 2, 3, 4] ?_
 clear Ccb
 refine wU2 5 [_, _] Tryz.call49 (rkeys_d d dl S hV hl s hs.out q) HM0 [2, 2] fun u3 W2 hm1 => ?_
 rw [hks.out] at hm1
 obtain ⟨pk, ck, rfl, hm1q⟩ := Mem.texts rfl hm1
 clear hm1
 have HM4 := Lib.hid hm1q
 clear hm1q
 refine wT [6] ?_
 refine wZ (wp_seq ?_)
 have Ccb := Mem.cell HM4.out 3 rfl
 refine wQ ?_
 clear Ccb
 refine wp_seq (wp_block ?_)
 refine wp_loop_F [4, 5, 6, 7, 9, 10, 23, 24, 25, 26, 27, 28, 29, 30, 31, 32, 33, 34, 35] (fun n vs W' => ∃ (D : List ByteArray) (p9 : Option Addr) (c9 : Nat), n = D.length ∧ vs 9 = .slice p9 D.length c9 ∧ popD ks D = popD ks du ∧ Reads elemS (rowT elemS (.slice pd du.length cd) du) (.slice p9 D.length c9) D ∧ Mem [rowT elemS (.slice pk ks.length ck) ks, boxT c (.cells #[.int .i64 q, .bool an, .string la, .slice pd du.length cd] 62 (0, 0)), rowT elemS (.slice pd du.length cd) du, boxT d (.cells (rvC dl S.inc S.dots S.has S.ring (.slice s.rp S.ring.p.2.2.length s.rc) (.slice s.p s.ys.length s.c)).toArray 91 (0, 0)), rowT elemPx (.slice s.p s.ys.length s.c) s.ys] H w W') (n0 := du.length) ?_ ?_
 ·exact ⟨du, pd, cd, rfl, rfl, rfl, rowT_reads, (Mem.only (M := [_, _, _, _, _]) HM4.out [0, 2, 2, 0, 0] rfl)⟩
 rintro n vs W' ⟨D, p9, c9, rfl, e9, hpo', hrd', hm⟩
 simp only [putAll, List.map_cons, List.map_nil, Act.put, List.setIfInBounds_toArray, List.set_cons_succ, List.set_cons_zero]
 rw [e9]
 clear e9
 have hpo := Lib.hid hpo'
 clear hpo'
 have hrd := Lib.hid hrd'
 clear hrd'
 have HM5 := Lib.hid hm
 clear hm
 refine wp_seq (wp_seq ?_)
 rcases D with _ | ⟨y, D⟩
 ·skip
  refine wQ ?_
  refine wp_cond_false rfl (wp_exit ?_)
  refine then_exit (then_exit (block_exit ?_))
  refine then_normal (wp_seq (wp_seq (wQ ?_)))
  refine wp_block ?_
  refine wp_loop_F [4, 5, 6, 7, 12, 38, 39, 40, 41, 42, 43, 44, 45, 46, 47, 48, 49, 50, 51, 52, 53, 54, 55, 56, 57] (fun n us W' => ∃ i : Nat, n = ks.length - i ∧ us 38 = .int .i64 (i : Int) ∧ i ≤ ks.length ∧ (ks.drop i).find? (newK (⟨q, an, la, du⟩ : Fd)) = ks.find? (newK (⟨q, an, la, du⟩ : Fd)) ∧ Mem [rowT elemS (.slice pk ks.length ck) ks, boxT c (.cells #[.int .i64 q, .bool an, .string la, .slice pd du.length cd] 62 (0, 0)), rowT elemS (.slice pd du.length cd) du, boxT d (.cells (rvC dl S.inc S.dots S.has S.ring (.slice s.rp S.ring.p.2.2.length s.rc) (.slice s.p s.ys.length s.c)).toArray 91 (0, 0)), rowT elemPx (.slice s.p s.ys.length s.c) s.ys] H w W') (n0 := ks.length) ?_ ?_
  ·exact ⟨0, rfl, rfl, Nat.zero_le _, rfl, (Mem.only (M := [_, _, _, _, _]) HM5.out [0, 0, 0, 0, 0] rfl)⟩
  rintro n us W' ⟨i, rfl, e38, hi, hfi', hm2⟩
  simp only [putAll, List.map_cons, List.map_nil, Act.put, List.setIfInBounds_toArray, List.set_cons_succ, List.set_cons_zero]
  rw [e38]
  clear e38
  have hfi := Lib.hid hfi'
  clear hfi'
  have HM6 := Lib.hid hm2
  clear hm2
  refine wp_seq (wQ ?_)
  refine wp_seq ?_
  refine wp_cond_split rfl (fun h7 => ?_) (fun h7 => ?_)
  ·have hi1 : i + 1 ≤ ks.length := by have : (i : Int) < ((ks.length : Nat) : Int) := (by simpa using h7); omega
   clear h7
   obtain ⟨y2, hy2'⟩ : ∃ y, ks[i]? = some y := ⟨_, List.getElem?_eq_getElem (hi1)⟩
   have hy2 := Lib.hid hy2'
   clear hy2'
   refine wp_skip (then_normal (wp_seq (wp_block (wp_seq (wN [(0, 1), (1, 1), (2, 1)] ?_)))))
   refine wI elemS 0 ((Mem.src HM6.out 0 rfl rowT_reads).1) (hy2.out) fun eb8 eo9 hc10 => ?_
   refine wM 1 (.string y2) (hc10 0 _ rfl) Tryz.underlying9 ?_
   refine wT [2] ?_
   refine wZ (wp_seq ?_)
   cases an
   rotate_left
   by_cases hgt' : ltK la y2
   ·have hnk : Hid (newK (⟨q, true, la, du⟩ : Fd) y2 = true) := Lib.hid (by unfold newK; rw [decide_eq_true hgt']; rfl)
    have hgt := Lib.hid hgt'
    clear hgt'
    refine wN [(0, 1), (1, 1), (2, 1), (3, 1), (4, 1), (5, 1), (6, 1), (7, 1), (8, 1), (9, 1), (10, 1), (11, 1), (12, 1)] ?_
    have Ccb := Mem.cell HM6.out 1 rfl
    refine wT [0, 1, 2, 3, 4, 5, 6, 7, 8, 9, 10] ?_
    clear Ccb
    refine wR 11 (run_gtrS (b := true) (decide_eq_true hgt.out) rfl rfl rfl) ?_
    refine wT [12] ?_
    refine wZ (wp_cond_true rfl (wp_seq (wQ ?_)))
    refine wp_ret ?_
    refine block_ret (then_ret (then_ret (block_ret (then_ret ?_))))
    refine bodyPost_ret (results_tmp4 rfl _ _ _) rfl ?_
    have hlo : lookF (⟨q, true, la, du⟩ : Fd) ks = (y2, [], true, true) := by unfold lookF; rw [show popD ks du = (none, []) from hpo.out.symm, show ks.find? (newK (⟨q, true, la, du⟩ : Fd)) = some y2 from by rw [← hfi.out]; exact find_hit hy2.out hnk.out]
    rw [hks.out, hlo]
    exact doesU_ret (post := fun u => [lkT (rowT elemS (.slice pd du.length cd) du) u (y2, [], true, true), boxT c (.cells #[.int .i64 q, .bool true, .string la, .slice pd du.length cd] 62 (0, 0)), rowT elemS (.slice pd du.length cd) du, boxT d (.cells (rvC dl S.inc S.dots S.has S.ring (.slice s.rp S.ring.p.2.2.length s.rc) (.slice s.p s.ys.length s.c)).toArray 91 (0, 0)), rowT elemPx (.slice s.p s.ys.length s.c) s.ys]) (Mem.toLk hrd.out (Mem.only (M := [_, _, _, _]) HM6.out [1, 1, 1, 1] rfl)) rfl
   ·have hnk : Hid (newK (⟨q, true, la, du⟩ : Fd) y2 = false) := Lib.hid (by unfold newK; rw [decide_eq_false hgt']; rfl)
    have hgt := Lib.hid hgt'
    clear hgt'
    refine wN [(0, 1), (1, 1), (2, 1), (3, 1), (4, 1), (5, 1), (6, 1), (7, 1), (8, 1), (9, 1), (10, 1), (11, 1), (12, 1)] ?_
    have Ccb := Mem.cell HM6.out 1 rfl
    refine wT [0, 1, 2, 3, 4, 5, 6, 7, 8, 9, 10] ?_
    clear Ccb
    refine wR 11 (run_gtrS (b := false) (decide_eq_false hgt.out) rfl rfl rfl) ?_
    refine wT [12] ?_
    refine wZ (wp_cond_false rfl (wp_skip (block_normal (then_normal (wQ ?_)))))
    refine ⟨by kernel_rfl, ?_⟩
    exact ⟨ks.length - (i + 1), by omega, i + 1, rfl, rfl, hi1, by rw [← hfi.out]; exact (find_step hy2.out hnk.out).symm, (Mem.only (M := [_, _, _, _, _]) HM6.out [0, 0, 0, 0, 0] rfl)⟩
   ·have hnk : Hid (newK (⟨q, false, la, du⟩ : Fd) y2 = true) := Lib.hid rfl
    refine wN [(0, 1), (1, 1), (2, 1), (3, 1), (4, 1), (5, 1), (6, 1), (7, 1), (8, 1), (9, 1), (10, 1), (11, 1), (12, 1)] ?_
    have Ccb := Mem.cell HM6.out 1 rfl
    refine wT [0, 1, 2, 3, 4, 5, 6, 7, 8, 9, 10] ?_
    clear Ccb
    refine wK 11 ?_
    refine wT [12] ?_
    refine wZ (wp_cond_true rfl (wp_seq (wQ ?_)))
    refine wp_ret ?_
    refine block_ret (then_ret (then_ret (block_ret (then_ret ?_))))
    refine bodyPost_ret (results_tmp4 rfl _ _ _) rfl ?_
    have hlo : lookF (⟨q, false, la, du⟩ : Fd) ks = (y2, [], true, true) := by unfold lookF; rw [show popD ks du = (none, []) from hpo.out.symm, show ks.find? (newK (⟨q, false, la, du⟩ : Fd)) = some y2 from by rw [← hfi.out]; exact find_hit hy2.out hnk.out]
    rw [hks.out, hlo]
    exact doesU_ret (post := fun u => [lkT (rowT elemS (.slice pd du.length cd) du) u (y2, [], true, true), boxT c (.cells #[.int .i64 q, .bool false, .string la, .slice pd du.length cd] 62 (0, 0)), rowT elemS (.slice pd du.length cd) du, boxT d (.cells (rvC dl S.inc S.dots S.has S.ring (.slice s.rp S.ring.p.2.2.length s.rc) (.slice s.p s.ys.length s.c)).toArray 91 (0, 0)), rowT elemPx (.slice s.p s.ys.length s.c) s.ys]) (Mem.toLk hrd.out (Mem.only (M := [_, _, _, _]) HM6.out [1, 1, 1, 1] rfl)) rfl
  ·have hge : Hid (ks.length ≤ i) := Lib.hid (by have : ¬ (i : Int) < ((ks.length : Nat) : Int) := (by simpa using h7); omega)
   clear h7
   refine wp_exit ?_
   refine then_exit (then_exit (block_exit ?_))
   refine then_normal (wp_seq (wQ ?_))
   refine wp_ret ?_
   refine bodyPost_ret (results_tmp4 rfl _ _ _) rfl ?_
   have hlo : lookF (⟨q, an, la, du⟩ : Fd) ks = (⟨#[]⟩, [], false, false) := by unfold lookF; rw [show popD ks du = (none, []) from hpo.out.symm, show ks.find? (newK (⟨q, an, la, du⟩ : Fd)) = none from by rw [← hfi.out, List.drop_eq_nil_of_le hge.out]; rfl]
   rw [hks.out, hlo]
   exact doesU_ret (post := fun u => [lkT (rowT elemS (.slice pd du.length cd) du) u (⟨#[]⟩, [], false, false), boxT c (.cells #[.int .i64 q, .bool an, .string la, .slice pd du.length cd] 62 (0, 0)), rowT elemS (.slice pd du.length cd) du, boxT d (.cells (rvC dl S.inc S.dots S.has S.ring (.slice s.rp S.ring.p.2.2.length s.rc) (.slice s.p s.ys.length s.c)).toArray 91 (0, 0)), rowT elemPx (.slice s.p s.ys.length s.c) s.ys]) (Mem.toLk hrd.out (Mem.only (M := [_, _, _, _]) HM6.out [1, 1, 1, 1] rfl)) rfl
 ·have g3 : decide ((0 : Int) < (((y :: D).length : Nat) : Int)) = true := decide_eq_true (by rw [List.length_cons]; omega)
  have g3' : decide (0 < (y :: D).length) = true := decide_eq_true (Nat.succ_pos _)
  refine wQ ?_
  refine wp_cond_true rfl (wp_skip (then_normal (wp_block (wp_seq (wN [(0, 1), (1, 1), (2, 1), (3, 1)] (wT [0] ?_))))))
  refine wI elemS 1 ((Mem.src HM5.out 2 rfl hrd.out).1) ((show (y :: D)[0]? = some y from rfl)) fun eb11 eo12 hc13 => ?_
  refine wM 2 (.string y) (hc13 0 _ rfl) Tryz.underlying9 ?_
  refine wT [3] ?_
  refine wZ (wp_seq (wN [(0, 1), (1, 1), (2, 1)] (wT [0] ?_)))
  refine wR 1 (run_tailE (E := elemS) (k := 1) (Nat.succ_le_succ (Nat.zero_le _)) rfl rfl rfl) ?_
  refine wT [2] ?_
  refine wZ (wp_seq ?_)
  obtain ⟨z, hb'⟩ := bool_letter (hasL ks y)
  cases z
  ·have hpn : Hid (popD ks D = popD ks (y :: D)) := Lib.hid (if_neg (by rw [hb']; exact Bool.false_ne_true)).symm
   have hb := Lib.hid hb'
   clear hb'
   refine wN [(0, 1), (1, 1), (2, 3)] (wT [0, 1] ?_)
   refine wD2 2 [_, _, _, _] [_, _, _, _, _] Tryz.call42 (rin_d _ _ ks (fun W H h => (rowT_reads W H h).1) hkl y) HM5 [0] fun W15 hm14 => ?_
   rw [hb.out]
   have HM16 := Lib.hid hm14
   clear hm14
   refine wZ (wp_cond_false rfl (wp_skip (block_normal (then_normal ?_))))
   refine ⟨by kernel_rfl, ?_⟩
   exact ⟨D.length, Nat.lt_succ_self _, D, _, _, rfl, rfl, by rw [← hpo.out]; exact hpn.out, tail_reads hrd.out, (Mem.only (M := [_, _, _, _, _]) HM16.out [0, 0, 0, 0, 0] rfl)⟩
  ·have hpn : Hid (popD ks (y :: D) = (some y, D)) := Lib.hid (if_pos hb')
   have hb := Lib.hid hb'
   clear hb'
   refine wN [(0, 1), (1, 1), (2, 3)] (wT [0, 1] ?_)
   refine wD2 2 [_, _, _, _] [_, _, _, _, _] Tryz.call42 (rin_d _ _ ks (fun W H h => (rowT_reads W H h).1) hkl y) HM5 [0] fun W18 hm17 => ?_
   rw [hb.out]
   have HM19 := Lib.hid hm17
   clear hm17
   refine wZ (wp_cond_true rfl (wp_seq (wQ ?_)))
   refine wp_ret ?_
   refine block_ret (then_ret (block_ret (then_ret ?_)))
   refine bodyPost_ret (results_tmp4 rfl _ _ _) rfl ?_
   have hlo : lookF (⟨q, an, la, du⟩ : Fd) ks = (y, D, false, true) := by unfold lookF; rw [show popD ks du = (some y, D) from by rw [← hpo.out]; exact hpn.out]
   rw [hks.out, hlo]
   exact doesU_ret (post := fun u => [lkT (rowT elemS (.slice pd du.length cd) du) u (y, D, false, true), boxT c (.cells #[.int .i64 q, .bool an, .string la, .slice pd du.length cd] 62 (0, 0)), rowT elemS (.slice pd du.length cd) du, boxT d (.cells (rvC dl S.inc S.dots S.has S.ring (.slice s.rp S.ring.p.2.2.length s.rc) (.slice s.p s.ys.length s.c)).toArray 91 (0, 0)), rowT elemPx (.slice s.p s.ys.length s.c) s.ys]) (Mem.toLk (tail_reads hrd.out) (Mem.only (M := [_, _, _, _]) HM19.out [1, 1, 1, 1] rfl)) rfl
end Go.Proofs.YtcbnhakfijiioaaGreat
namespace Go.Proofs.YtcbnhakfijiioaaGreat
open Go Go.RowKit Go.BigFrame
def nxV (o : Option ByteArray) (s : Rs) (S : Vt) : Value :=
 match o with
 | some k => .tuple #[prV k (bagV S k).k (slR s S k), .bool true]
 | none => .tuple #[prV ⟨#[]⟩ noB.k (.slice none 0 0), .bool false]
theorem slR_form (s : Rs) (S : Vt) (k : ByteArray) : ∃ p n c, slR s S k = .slice p n c := by
 unfold slR
 split
 ·split
  ·exact ⟨_, _, _, rfl⟩
  ·exact ⟨_, _, _, rfl⟩
 ·exact ⟨_, _, _, rfl⟩
theorem nxV_some {s : Rs} {S : Vt} {k : ByteArray} {v : Value} (h : slR s S k = v) : nxV (some k) s S = .tuple #[prV k (bagV S k).k v, .bool true] := by
 subst h
 rfl
theorem look_ways (F : Fd) (ks : List ByteArray) : (∃ k r, lookF F ks = (k, r, false, true) ∧ nextF F ks = (⟨F.part, F.any, F.last, r⟩, some k)) ∨ (∃ k, lookF F ks = (k, [], true, true) ∧ nextF F ks = (⟨F.part, true, k, []⟩, some k)) ∨ (lookF F ks = (⟨#[]⟩, [], false, false) ∧ nextF F ks = (⟨F.part, F.any, F.last, []⟩, none)) := by
 unfold lookF
 rcases next_ways F ks with ⟨k, r, h1, h2⟩ | ⟨k, h1, h3, h2⟩ | ⟨h1, h3, h2⟩
 ·rw [h1]
  exact .inl ⟨k, r, rfl, h2⟩
 ·rw [h1, h3]
  exact .inr (.inl ⟨k, rfl, h2⟩)
 ·rw [h1, h3]
  exact .inr (.inr ⟨rfl, h2⟩)
theorem look_rest {F : Fd} {ks r : List ByteArray} {k : ByteArray} (h : lookF F ks = (k, r, false, true)) : r = (popD ks F.due).2 := by
 unfold lookF at h
 obtain ⟨o, x, hp⟩ : ∃ o x, popD ks F.due = (o, x) := ⟨_, _, rfl⟩
 rw [hp] at h ⊢
 cases o with
 | some y => exact (Prod.mk.inj (Prod.mk.inj h).2).1.symm
 | none =>
  dsimp only at h
  cases hf : ks.find? (newK F) with
  | some y =>
   rw [hf] at h
   exact absurd (Prod.mk.inj (Prod.mk.inj (Prod.mk.inj h).2).2).1 (by decide)
  | none =>
   rw [hf] at h
   exact absurd (Prod.mk.inj (Prod.mk.inj (Prod.mk.inj h).2).2).2 (by decide)
set_option maxHeartbeats 4000000 in
set_option maxRecDepth 100000 in
theorem rnext_d (c : Nat) (F : Fd) (hfl : F.due.length ≤ 3000) (d dl : Nat) (S : Vt) (hV : VtOk S) (hl : S.b.length ≤ 3000) (s : Rs) (hs' : RsOk s S) : Does Tryz.prog 17 #[.pointer (some ⟨c, 0, none⟩), .pointer (some ⟨d, 0, none⟩)] [cuT c F, boxT d (.cells (rvC dl S.inc S.dots S.has S.ring (.slice s.rp S.ring.p.2.2.length s.rc) (.slice s.p s.ys.length s.c)).toArray 91 (0, 0)), rowT elemPx (.slice s.p s.ys.length s.c) s.ys] (nxV (nextF F (keysV S F.part)).2 s S) [cuT c (nextF F (keysV S F.part)).1, boxT d (.cells (rvC dl S.inc S.dots S.has S.ring (.slice s.rp S.ring.p.2.2.length s.rc) (.slice s.p s.ys.length s.c)).toArray 91 (0, 0)), rowT elemPx (.slice s.p s.ys.length s.c) s.ys] := by
 intro w H hp
 have HM0 := Lib.hid (mem_refl hp)
 clear hp
 obtain ⟨q, an, la, du⟩ := F
 obtain ⟨pd, cd, HM1'⟩ := Mem.cu HM0.out
 clear HM0
 have HM0 := Lib.hid (show Mem _ H w w from HM1')
 clear HM1'
 dsimp only at HM0
 have hfl2 : du.length ≤ 3000 := hfl
 clear hfl
 have hs := Lib.hid hs'
 clear hs'
 have hyl : s.ys.length ≤ 3000 := by rw [hs.out.len]; exact hl
 obtain ⟨ks, hks'⟩ : ∃ ks, keysV S q = ks := ⟨_, rfl⟩
 have hkl : ks.length ≤ 3000 := by rw [← hks']; exact keysV_3 _ hl
 have hks := Lib.hid hks'
 clear hks'
 go_enter Tryz.func17, Tryz.ntmps17
 refine wp_seq (wN [(0, 3), (1, 1)] ?_)
 refine wpS_alloc (i := 0) (dd := 4) (z := prV ⟨#[]⟩ noB.k (.slice none 0 0)) (cs := (prC ⟨#[]⟩ noB.k (.slice none 0 0)).toArray) rfl (by rfl) rfl (by kernel_rfl) rfl HM0.out covS_nil rfl ?_
 rintro b3 W2 hm1 -
 have HM4 := Lib.hid hm1
 clear hm1
 simp only [Act.put, List.setIfInBounds_toArray, List.set_cons_succ, List.set_cons_zero]
 refine wT [1] ?_
 refine wZ (wp_seq ?_)
 rcases look_ways (⟨q, an, la, du⟩ : Fd) ks with ⟨k, r, hlo', hnx'⟩ | ⟨k, hlo', hnx'⟩ | ⟨hlo', hnx'⟩
 ·have hlo := Lib.hid hlo'
  clear hlo'
  have hnx := Lib.hid hnx'
  clear hnx'
  have hdl : Hid ((r : List ByteArray).length ≤ 3000) := Lib.hid (by have h1 := (popD_sub ks du).length_le; first | exact Nat.zero_le _ | (have h2 : r = (popD ks du).2 := (look_rest hlo.out); rw [h2]; omega))
  refine wN [(0, 1), (1, 1), (2, 3), (3, 1), (4, 1), (5, 1), (6, 1), (7, 1), (8, 1), (9, 1), (10, 1), (11, 1)] (wT [0, 1] ?_)
  refine wU2 2 [_] Tryz.call37 (rlook_d c q an la du pd cd d dl S hV hl s hs.out) HM4 [1, 1, 1, 1] fun u7 W6 hm5 => ?_
  rw [hks.out, hlo.out] at hm5
  obtain ⟨pl, cl, rfl, hrl', hm5q⟩ := Mem.lk hm5
  clear hm5
  have hrl := Lib.hid hrl'
  clear hrl'
  have HM8 := Lib.hid hm5q
  clear hm5q
  refine wT [3, 4, 5, 6, 7, 8, 9, 10, 11] ?_
  refine wZ (wp_seq (wN [(0, 1), (1, 1), (2, 3), (3, 1), (4, 1), (5, 3)] (wT [0, 1] ?_)))
  have HNL := Lib.hid (Mem.nilRow elemS HM8.out)
  refine wpS_append (E := elemS) (i := 2) (d := some 20) (L2 := [_, _, _, _, _]) rfl (by rfl) rfl HNL.out 0 rfl rfl (HNL.out.src 2 rfl hrl.out) rfl (by have := hdl.out; rw [List.length_nil]; show _ * 16 ≤ 140737488355328; omega) rfl covS_nil rfl ?_
  rintro nu11 W12 hm13 -
  have HM14 := Lib.hid hm13
  clear hm13
  simp only [Act.put, List.setIfInBounds_toArray, List.set_cons_succ, List.set_cons_zero]
  obtain ⟨np, nc, hnp⟩ := row_form (Mem.src HM14.out 0 rfl rowT_reads)
  subst hnp
  have HL := HM14.out
  rw [List.nil_append] at HL
  rw [List.nil_append]
  have HM15 := Lib.hid HL
  clear HL
  refine wT [3, 4] ?_
  refine wpS_store1 (i := 5) (L2 := [_, _, _, _, _]) (cs' := [.int .i64 q, .bool an, .string la, .slice np r.length nc]) rfl (by rfl) rfl rfl rfl rfl (by kernel_rfl) rfl HM15.out 1 rfl rfl rfl rfl covS_nil rfl ?_
  rintro W17 hm16 -
  have HM18 := Lib.hid hm16
  clear hm16
  refine wZ (wp_seq (wp_seq (wQ ?_)))
  refine wp_cond_false rfl (wp_skip (then_normal (wp_seq (wp_seq (wQ ?_)))))
  refine wp_cond_false rfl (wp_skip (then_normal (wp_seq ?_)))
  obtain ⟨sp, sn, sc, hsl'⟩ := slR_form s S k
  have hsl := Lib.hid hsl'
  clear hsl'
  refine wN [(0, 1), (1, 1), (2, 1), (3, 3), (4, 1), (5, 3), (6, 1)] (wT [0, 1, 2] ?_)
  refine wD2 3 [_, _, _, _] [_, _, _, _, _, _] Tryz.call38 (rbag_d d dl S hV hl s hs.out k) HM18 [3, 3] fun W20 hm19 => ?_
  rw [hsl.out]
  have HM21 := Lib.hid hm19
  clear hm19
  refine wR 4 (v := prV k (bagV S k).k (.slice sp sn sc)) (by kernel_rfl) ?_
  refine wpS_storeA (i := 5) (L2 := [_, _, _, _, _]) (cs' := prC k (bagV S k).k (.slice sp sn sc)) rfl (by rfl) rfl rfl rfl (by kernel_rfl) (prC_one _ _ _) HM21.out 5 rfl rfl (by kernel_rfl) (by kernel_rfl) covS_nil rfl ?_
  rintro W23 hm22 -
  have HM24 := Lib.hid hm22
  clear hm22
  refine wT [6] ?_
  refine wZ (wp_ret ?_)
  refine ret_cell_tmp rfl HM24.out 0 rfl rfl Tryz.underlying45 rfl (by kernel_rfl) rfl rfl ?_
  rw [hks.out, hnx.out]
  dsimp only
  rw [nxV_some hsl.out]
  exact does_ret (Mem.toCu (F := (⟨q, an, la, r⟩ : Fd)) (Mem.only (M := [_, _, _, _]) HM24.out [3, 3, 1, 1] rfl)) rfl rfl
 ·have hlo := Lib.hid hlo'
  clear hlo'
  have hnx := Lib.hid hnx'
  clear hnx'
  have hdl : Hid (([] : List ByteArray).length ≤ 3000) := Lib.hid (by have h1 := (popD_sub ks du).length_le; first | exact Nat.zero_le _ | (have h2 : [] = (popD ks du).2 := (look_rest hlo.out); rw [h2]; omega))
  refine wN [(0, 1), (1, 1), (2, 3), (3, 1), (4, 1), (5, 1), (6, 1), (7, 1), (8, 1), (9, 1), (10, 1), (11, 1)] (wT [0, 1] ?_)
  refine wU2 2 [_] Tryz.call37 (rlook_d c q an la du pd cd d dl S hV hl s hs.out) HM4 [1, 1, 1, 1] fun u27 W26 hm25 => ?_
  rw [hks.out, hlo.out] at hm25
  obtain ⟨pl, cl, rfl, hrl', hm25q⟩ := Mem.lk hm25
  clear hm25
  have hrl := Lib.hid hrl'
  clear hrl'
  have HM28 := Lib.hid hm25q
  clear hm25q
  refine wT [3, 4, 5, 6, 7, 8, 9, 10, 11] ?_
  refine wZ (wp_seq (wN [(0, 1), (1, 1), (2, 3), (3, 1), (4, 1), (5, 3)] (wT [0, 1] ?_)))
  have HNL := Lib.hid (Mem.nilRow elemS HM28.out)
  refine wpS_append (E := elemS) (i := 2) (d := some 20) (L2 := [_, _, _, _, _]) rfl (by rfl) rfl HNL.out 0 rfl rfl (HNL.out.src 2 rfl hrl.out) rfl (by have := hdl.out; rw [List.length_nil]; show _ * 16 ≤ 140737488355328; omega) rfl covS_nil rfl ?_
  rintro nu31 W32 hm33 -
  have HM34 := Lib.hid hm33
  clear hm33
  simp only [Act.put, List.setIfInBounds_toArray, List.set_cons_succ, List.set_cons_zero]
  obtain ⟨np, nc, hnp⟩ := row_form (Mem.src HM34.out 0 rfl rowT_reads)
  subst hnp
  have HL := HM34.out
  rw [List.nil_append] at HL
  rw [List.nil_append]
  have HM35 := Lib.hid HL
  clear HL
  refine wT [3, 4] ?_
  refine wpS_store1 (i := 5) (L2 := [_, _, _, _, _]) (cs' := [.int .i64 q, .bool an, .string la, .slice np ([] : List ByteArray).length nc]) rfl (by rfl) rfl rfl rfl rfl (by kernel_rfl) rfl HM35.out 1 rfl rfl rfl rfl covS_nil rfl ?_
  rintro W37 hm36 -
  have HM38 := Lib.hid hm36
  clear hm36
  refine wZ (wp_seq (wp_seq (wQ ?_)))
  refine wp_cond_false rfl (wp_skip (then_normal (wp_seq (wp_seq (wQ ?_)))))
  refine wp_cond_true rfl (wN [(0, 1), (1, 1), (2, 1), (3, 1), (4, 1), (5, 3), (6, 1), (7, 1), (8, 3)] (wT [0, 1, 2, 3, 4] ?_))
  refine wpS_store1 (i := 5) (v := .bool _) (L2 := [_, _, _, _, _]) (cs' := [.int .i64 q, .bool true, .string la, .slice np ([] : List ByteArray).length nc]) rfl (by rfl) rfl rfl rfl rfl (by kernel_rfl) rfl HM38.out 0 rfl rfl rfl rfl covS_nil rfl ?_
  rintro W40 hm39 -
  have HM41 := Lib.hid hm39
  clear hm39
  refine wT [6, 7] ?_
  refine wpS_store1 (i := 8) (L2 := [_, _, _, _, _]) (cs' := [.int .i64 q, .bool true, .string k, .slice np ([] : List ByteArray).length nc]) rfl (by rfl) rfl rfl rfl rfl (by kernel_rfl) rfl HM41.out 0 rfl rfl rfl rfl covS_nil rfl ?_
  rintro W43 hm42 -
  have HM44 := Lib.hid hm42
  clear hm42
  refine wZ (wp_seq ?_)
  obtain ⟨sp, sn, sc, hsl'⟩ := slR_form s S k
  have hsl := Lib.hid hsl'
  clear hsl'
  refine wN [(0, 1), (1, 1), (2, 1), (3, 3), (4, 1), (5, 3), (6, 1)] (wT [0, 1, 2] ?_)
  refine wD2 3 [_, _, _, _] [_, _, _, _, _, _] Tryz.call38 (rbag_d d dl S hV hl s hs.out k) HM44 [3, 3] fun W46 hm45 => ?_
  rw [hsl.out]
  have HM47 := Lib.hid hm45
  clear hm45
  refine wR 4 (v := prV k (bagV S k).k (.slice sp sn sc)) (by kernel_rfl) ?_
  refine wpS_storeA (i := 5) (L2 := [_, _, _, _, _]) (cs' := prC k (bagV S k).k (.slice sp sn sc)) rfl (by rfl) rfl rfl rfl (by kernel_rfl) (prC_one _ _ _) HM47.out 5 rfl rfl (by kernel_rfl) (by kernel_rfl) covS_nil rfl ?_
  rintro W49 hm48 -
  have HM50 := Lib.hid hm48
  clear hm48
  refine wT [6] ?_
  refine wZ (wp_ret ?_)
  refine ret_cell_tmp rfl HM50.out 0 rfl rfl Tryz.underlying45 rfl (by kernel_rfl) rfl rfl ?_
  rw [hks.out, hnx.out]
  dsimp only
  rw [nxV_some hsl.out]
  exact does_ret (Mem.toCu (F := (⟨q, true, k, []⟩ : Fd)) (Mem.only (M := [_, _, _, _]) HM50.out [3, 3, 1, 1] rfl)) rfl rfl
 ·have hlo := Lib.hid hlo'
  clear hlo'
  have hnx := Lib.hid hnx'
  clear hnx'
  have hdl : Hid (([] : List ByteArray).length ≤ 3000) := Lib.hid (by have h1 := (popD_sub ks du).length_le; first | exact Nat.zero_le _ | (have h2 : [] = (popD ks du).2 := (look_rest hlo.out); rw [h2]; omega))
  refine wN [(0, 1), (1, 1), (2, 3), (3, 1), (4, 1), (5, 1), (6, 1), (7, 1), (8, 1), (9, 1), (10, 1), (11, 1)] (wT [0, 1] ?_)
  refine wU2 2 [_] Tryz.call37 (rlook_d c q an la du pd cd d dl S hV hl s hs.out) HM4 [1, 1, 1, 1] fun u53 W52 hm51 => ?_
  rw [hks.out, hlo.out] at hm51
  obtain ⟨pl, cl, rfl, hrl', hm51q⟩ := Mem.lk hm51
  clear hm51
  have hrl := Lib.hid hrl'
  clear hrl'
  have HM54 := Lib.hid hm51q
  clear hm51q
  refine wT [3, 4, 5, 6, 7, 8, 9, 10, 11] ?_
  refine wZ (wp_seq (wN [(0, 1), (1, 1), (2, 3), (3, 1), (4, 1), (5, 3)] (wT [0, 1] ?_)))
  have HNL := Lib.hid (Mem.nilRow elemS HM54.out)
  refine wpS_append (E := elemS) (i := 2) (d := some 20) (L2 := [_, _, _, _, _]) rfl (by rfl) rfl HNL.out 0 rfl rfl (HNL.out.src 2 rfl hrl.out) rfl (by have := hdl.out; rw [List.length_nil]; show _ * 16 ≤ 140737488355328; omega) rfl covS_nil rfl ?_
  rintro nu57 W58 hm59 -
  have HM60 := Lib.hid hm59
  clear hm59
  simp only [Act.put, List.setIfInBounds_toArray, List.set_cons_succ, List.set_cons_zero]
  obtain ⟨np, nc, hnp⟩ := row_form (Mem.src HM60.out 0 rfl rowT_reads)
  subst hnp
  have HL := HM60.out
  rw [List.nil_append] at HL
  rw [List.nil_append]
  have HM61 := Lib.hid HL
  clear HL
  refine wT [3, 4] ?_
  refine wpS_store1 (i := 5) (L2 := [_, _, _, _, _]) (cs' := [.int .i64 q, .bool an, .string la, .slice np ([] : List ByteArray).length nc]) rfl (by rfl) rfl rfl rfl rfl (by kernel_rfl) rfl HM61.out 1 rfl rfl rfl rfl covS_nil rfl ?_
  rintro W63 hm62 -
  have HM64 := Lib.hid hm62
  clear hm62
  refine wZ (wp_seq (wp_seq (wQ ?_)))
  refine wp_cond_true rfl (wp_seq (wN [(0, 1), (1, 3), (2, 1)] ?_))
  refine wR 0 (v := prV ⟨#[]⟩ noB.k (.slice none 0 0)) (by kernel_rfl) ?_
  refine wpS_storeA (i := 1) (L2 := [_, _, _, _, _]) (cs' := prC ⟨#[]⟩ noB.k (Value.slice none 0 0)) rfl (by rfl) rfl rfl rfl (by kernel_rfl) (prC_one _ _ _) HM64.out 5 rfl rfl (by kernel_rfl) (by kernel_rfl) covS_nil rfl ?_
  rintro W66 hm65 -
  have HM67 := Lib.hid hm65
  clear hm65
  refine wT [2] ?_
  refine wZ (wp_ret (then_ret ?_))
  refine ret_cell_tmp rfl HM67.out 0 rfl rfl Tryz.underlying45 rfl (by kernel_rfl) rfl rfl ?_
  rw [hks.out, hnx.out]
  exact does_ret (Mem.toCu (F := (⟨q, an, la, []⟩ : Fd)) (Mem.only (M := [_, _, _, _]) HM67.out [1, 1, 2, 2] rfl)) rfl rfl
set_option maxHeartbeats 4000000 in
set_option maxRecDepth 100000 in
theorem rover_d (c : Nat) (F : Fd) (d dl : Nat) (S : Vt) (hV : VtOk S) (hl : S.b.length ≤ 3000) (s : Rs) (hs' : RsOk s S) : Does Tryz.prog 22 #[.pointer (some ⟨c, 0, none⟩), .pointer (some ⟨d, 0, none⟩)] [cuT c F, boxT d (.cells (rvC dl S.inc S.dots S.has S.ring (.slice s.rp S.ring.p.2.2.length s.rc) (.slice s.p s.ys.length s.c)).toArray 91 (0, 0)), rowT elemPx (.slice s.p s.ys.length s.c) s.ys] (.bool (overF F (keysV S F.part))) [cuT c F, boxT d (.cells (rvC dl S.inc S.dots S.has S.ring (.slice s.rp S.ring.p.2.2.length s.rc) (.slice s.p s.ys.length s.c)).toArray 91 (0, 0)), rowT elemPx (.slice s.p s.ys.length s.c) s.ys] := by
 intro w H hp
 have HM0 := Lib.hid (mem_refl hp)
 clear hp
 obtain ⟨q, an, la, du⟩ := F
 obtain ⟨pd, cd, HM1'⟩ := Mem.cu HM0.out
 clear HM0
 have HM0 := Lib.hid (show Mem _ H w w from HM1')
 clear HM1'
 dsimp only at HM0
 have hs := Lib.hid hs'
 clear hs'
 have hyl : s.ys.length ≤ 3000 := by rw [hs.out.len]; exact hl
 obtain ⟨ks, hks'⟩ : ∃ ks, keysV S q = ks := ⟨_, rfl⟩
 have hkl : ks.length ≤ 3000 := by rw [← hks']; exact keysV_3 _ hl
 have hks := Lib.hid hks'
 clear hks'
 go_enter Tryz.func22, Tryz.ntmps22
 refine wp_seq (wQ ?_)
 refine wp_seq ?_
 rcases look_ways (⟨q, an, la, du⟩ : Fd) ks with ⟨k, r, hlo', hnx'⟩ | ⟨k, hlo', hnx'⟩ | ⟨hlo', hnx'⟩
 ·have hlo := Lib.hid hlo'
  clear hlo'
  have hov : Hid (overF (⟨q, an, la, du⟩ : Fd) ks = false) := Lib.hid (by unfold overF; rw [hnx']; rfl)
  clear hnx'
  refine wN [(0, 1), (1, 1), (2, 3), (3, 1), (4, 1), (5, 1), (6, 1), (7, 1), (8, 1), (9, 1), (10, 1), (11, 1)] (wT [0, 1] ?_)
  refine wU2 2 [] Tryz.call37 (rlook_d c q an la du pd cd d dl S hV hl s hs.out) HM0 [0, 0, 0, 0] fun u3 W2 hm1 => ?_
  rw [hks.out, hlo.out] at hm1
  obtain ⟨pl, cl, rfl, hrl', hm1q⟩ := Mem.lk hm1
  clear hm1
  have hrl := Lib.hid hrl'
  clear hrl'
  have HM4 := Lib.hid hm1q
  clear hm1q
  refine wT [3, 4, 5, 6, 7, 8, 9, 10, 11] ?_
  refine wZ (wp_seq (wQ ?_))
  refine wp_ret (bodyPost_ret (results_tmp rfl _ _ _) rfl ?_)
  rw [hks.out, hov.out]
  exact does_ret (Mem.toCu (F := (⟨q, an, la, du⟩ : Fd)) (Mem.only (M := [_, _, _, _]) HM4.out [0, 0, 0, 0] rfl)) rfl rfl
 ·have hlo := Lib.hid hlo'
  clear hlo'
  have hov : Hid (overF (⟨q, an, la, du⟩ : Fd) ks = false) := Lib.hid (by unfold overF; rw [hnx']; rfl)
  clear hnx'
  refine wN [(0, 1), (1, 1), (2, 3), (3, 1), (4, 1), (5, 1), (6, 1), (7, 1), (8, 1), (9, 1), (10, 1), (11, 1)] (wT [0, 1] ?_)
  refine wU2 2 [] Tryz.call37 (rlook_d c q an la du pd cd d dl S hV hl s hs.out) HM0 [0, 0, 0, 0] fun u7 W6 hm5 => ?_
  rw [hks.out, hlo.out] at hm5
  obtain ⟨pl, cl, rfl, hrl', hm5q⟩ := Mem.lk hm5
  clear hm5
  have hrl := Lib.hid hrl'
  clear hrl'
  have HM8 := Lib.hid hm5q
  clear hm5q
  refine wT [3, 4, 5, 6, 7, 8, 9, 10, 11] ?_
  refine wZ (wp_seq (wQ ?_))
  refine wp_ret (bodyPost_ret (results_tmp rfl _ _ _) rfl ?_)
  rw [hks.out, hov.out]
  exact does_ret (Mem.toCu (F := (⟨q, an, la, du⟩ : Fd)) (Mem.only (M := [_, _, _, _]) HM8.out [0, 0, 0, 0] rfl)) rfl rfl
 ·have hlo := Lib.hid hlo'
  clear hlo'
  have hov : Hid (overF (⟨q, an, la, du⟩ : Fd) ks = true) := Lib.hid (by unfold overF; rw [hnx']; rfl)
  clear hnx'
  refine wN [(0, 1), (1, 1), (2, 3), (3, 1), (4, 1), (5, 1), (6, 1), (7, 1), (8, 1), (9, 1), (10, 1), (11, 1)] (wT [0, 1] ?_)
  refine wU2 2 [] Tryz.call37 (rlook_d c q an la du pd cd d dl S hV hl s hs.out) HM0 [0, 0, 0, 0] fun u11 W10 hm9 => ?_
  rw [hks.out, hlo.out] at hm9
  obtain ⟨pl, cl, rfl, hrl', hm9q⟩ := Mem.lk hm9
  clear hm9
  have hrl := Lib.hid hrl'
  clear hrl'
  have HM12 := Lib.hid hm9q
  clear hm9q
  refine wT [3, 4, 5, 6, 7, 8, 9, 10, 11] ?_
  refine wZ (wp_seq (wQ ?_))
  refine wp_ret (bodyPost_ret (results_tmp rfl _ _ _) rfl ?_)
  rw [hks.out, hov.out]
  exact does_ret (Mem.toCu (F := (⟨q, an, la, du⟩ : Fd)) (Mem.only (M := [_, _, _, _]) HM12.out [0, 0, 0, 0] rfl)) rfl rfl
set_option maxHeartbeats 4000000 in
set_option maxRecDepth 100000 in
theorem rback_d (c : Nat) (F : Fd) (hF : FdOk F) (hfl : F.due.length ≤ 3000) (k : ByteArray) (hk : keyB k = true) : Does Tryz.prog 20 #[.pointer (some ⟨c, 0, none⟩), .string k] [cuT c F] (.bool (backB F k)) [cuT c (backF F k)] := by
 intro w H hp
 have HM0 := Lib.hid (mem_refl hp)
 clear hp
 obtain ⟨q, an, la, du⟩ := F
 obtain ⟨pd, cd, HM1'⟩ := Mem.cu HM0.out
 clear HM0
 have HM0 := Lib.hid (show Mem _ H w w from HM1')
 clear HM1'
 dsimp only at HM0
 have hfl2 : du.length ≤ 3000 := hfl
 clear hfl
 have hyc := Lib.hid (row_cap (Mem.src HM0.out 1 rfl rowT_reads))
 go_enter Tryz.func20, Tryz.ntmps20
 refine wp_seq (wQ ?_)
 refine wp_seq (wp_seq ?_)
 by_cases hpart : ofK k = q
 cases an
 rotate_left
 by_cases hgt' : ltK la k
 rotate_left
 by_cases hin0 : k ∈ du
 ·have gp : (ofK k != q) = false := bne_eq_false_iff_eq.2 hpart
  have hbb : Hid (backB (⟨q, true, la, du⟩ : Fd) k = true) := Lib.hid (by unfold backB; rw [decide_eq_true hpart, decide_eq_false hgt']; rfl)
  have hin : Hid (hasL du k = true) := Lib.hid (hasL_iff.2 hin0)
  have hbf : Hid (backF (⟨q, true, la, du⟩ : Fd) k = (⟨q, true, la, du⟩ : Fd)) := Lib.hid ((if_pos hbb.out).trans (by rw [insK_in hF.srt hin0]))
  clear hpart hin0
  have hgt := Lib.hid hgt'
  clear hgt'
  refine wp_region_M (fun k => k ∈ ([c] : List Nat)) [(0, 1), (2, 0), (3, 0), (4, 0), (5, 2), (1, 3), (6, 1), (7, 1), (8, 1), (9, 1), (10, 1), (11, 1), (12, 1), (13, 1), (14, 1), (15, 1), (16, 1), (17, 1), (18, 1), (19, 1), (20, 1), (21, 1)] (by kernel_rfl) (by kernel_rfl) HM0.out ?_
  intro W1 hm2
  have HM3 := Lib.hid hm2
  clear hm2
  refine wT [0] ?_
  refine wA [2, 3, 4] ?_
  have Ccb := Mem.cell HM3.out 0 rfl
  refine wS [5] ?_
  clear Ccb
  refine wD1h (hS := (covS_box 0 rfl covS_nil)) 1 [_, _] [_, _] Tryz.call31 (ofrd_d k (Nat.le_trans (keyB_size hk) (by decide))) HM3 [] fun W5 HM7 => ?_
  have Ccb := Mem.cell HM7.out 0 rfl
  refine wT [6, 7, 8, 9, 10, 11, 12, 13, 14, 15, 16, 17, 18, 19] ?_
  clear Ccb
  refine wR 20 (run_gtrS (b := false) (decide_eq_false hgt.out) rfl rfl rfl) ?_
  refine wT [21] ?_
  refine wZ (wp_cond_false rfl (wp_skip (then_normal (wp_seq (wp_seq (wN [(0, 1), (1, 1), (2, 1), (3, 1), (4, 1), (5, 3), (6, 1)] ?_))))))
  have Ccb := Mem.cell HM7.out 0 rfl
  refine wT [0, 1, 2, 3, 4] ?_
  clear Ccb
  refine wD2 5 [_] [_, _] Tryz.call42 (rin_d _ _ du (fun W H h => (rowT_reads W H h).1) hfl2 k) HM7 [1] fun W9 hm8 => ?_
  rw [hin.out]
  have HM10 := Lib.hid hm8
  clear hm8
  refine wT [6] ?_
  refine wZ (wp_cond_false rfl (wp_skip (then_normal (wp_seq (wQ ?_)))))
  refine wp_ret (bodyPost_ret (results_tmp rfl _ _ _) rfl ?_)
  rw [hbb.out, hbf.out]
  exact does_ret (Mem.toCu (F := (⟨q, true, la, du⟩ : Fd)) (Mem.only (M := [_, _]) HM10.out [1, 0] rfl)) rfl rfl
 ·have gp : (ofK k != q) = false := bne_eq_false_iff_eq.2 hpart
  have hbb : Hid (backB (⟨q, true, la, du⟩ : Fd) k = true) := Lib.hid (by unfold backB; rw [decide_eq_true hpart, decide_eq_false hgt']; rfl)
  have hin : Hid (hasL du k = false) := Lib.hid (Bool.eq_false_iff.2 fun h => hin0 (hasL_iff.1 h))
  have hbf : Hid (backF (⟨q, true, la, du⟩ : Fd) k = (⟨q, true, la, insK k du⟩ : Fd)) := Lib.hid (if_pos hbb.out)
  have hni := Lib.hid hin0
  clear hpart hin0
  have hgt := Lib.hid hgt'
  clear hgt'
  refine wp_region_M (fun k => k ∈ ([c] : List Nat)) [(0, 1), (2, 0), (3, 0), (4, 0), (5, 2), (1, 3), (6, 1), (7, 1), (8, 1), (9, 1), (10, 1), (11, 1), (12, 1), (13, 1), (14, 1), (15, 1), (16, 1), (17, 1), (18, 1), (19, 1), (20, 1), (21, 1)] (by kernel_rfl) (by kernel_rfl) HM0.out ?_
  intro W11 hm12
  have HM13 := Lib.hid hm12
  clear hm12
  refine wT [0] ?_
  refine wA [2, 3, 4] ?_
  have Ccb := Mem.cell HM13.out 0 rfl
  refine wS [5] ?_
  clear Ccb
  refine wD1h (hS := (covS_box 0 rfl covS_nil)) 1 [_, _] [_, _] Tryz.call31 (ofrd_d k (Nat.le_trans (keyB_size hk) (by decide))) HM13 [] fun W15 HM17 => ?_
  have Ccb := Mem.cell HM17.out 0 rfl
  refine wT [6, 7, 8, 9, 10, 11, 12, 13, 14, 15, 16, 17, 18, 19] ?_
  clear Ccb
  refine wR 20 (run_gtrS (b := false) (decide_eq_false hgt.out) rfl rfl rfl) ?_
  refine wT [21] ?_
  refine wZ (wp_cond_false rfl (wp_skip (then_normal (wp_seq (wp_seq (wN [(0, 1), (1, 1), (2, 1), (3, 1), (4, 1), (5, 3), (6, 1)] ?_))))))
  have Ccb := Mem.cell HM17.out 0 rfl
  refine wT [0, 1, 2, 3, 4] ?_
  clear Ccb
  refine wD2 5 [_] [_, _] Tryz.call42 (rin_d _ _ du (fun W H h => (rowT_reads W H h).1) hfl2 k) HM17 [1] fun W19 hm18 => ?_
  rw [hin.out]
  have HM20 := Lib.hid hm18
  clear hm18
  refine wT [6] ?_
  refine wZ (wp_cond_true rfl (wp_seq (wQ ?_)))
  refine wp_seq (wp_block ?_)
  refine wp_loop_F [5, 35, 36, 37, 38, 39, 40, 41, 42, 43, 44, 45, 46, 47, 48, 49, 50, 51, 52, 53, 54] (fun n vs W' => ∃ i : Nat, n = du.length - i ∧ vs 5 = .int .i64 (i : Int) ∧ i ≤ du.length ∧ (∀ j p, j < i → du[j]? = some p → ltK p k) ∧ Mem [boxT c (.cells #[.int .i64 q, .bool true, .string la, .slice pd du.length cd] 62 (0, 0)), rowT elemS (.slice pd du.length cd) du] H w W') (n0 := du.length) ?_ ?_
  ·exact ⟨0, rfl, rfl, Nat.zero_le _, (fun j p hj _ => absurd hj (Nat.not_lt_zero j)), (Mem.only (M := [_, _]) HM20.out [1, 0] rfl)⟩
  rintro n vs W' ⟨i, rfl, e5, hi, hlo', hm⟩
  simp only [putAll, List.map_cons, List.map_nil, Act.put, List.setIfInBounds_toArray, List.set_cons_succ, List.set_cons_zero]
  rw [e5]
  clear e5
  have hlo := Lib.hid hlo'
  clear hlo'
  have HM21 := Lib.hid hm
  clear hm
  refine wp_seq (wp_seq ?_)
  by_cases hil : i < du.length
  ·obtain ⟨y, hy'⟩ : ∃ y, du[i]? = some y := ⟨_, List.getElem?_eq_getElem hil⟩
   have hy := Lib.hid hy'
   clear hy'
   have g5 : decide ((i : Int) < (du.length : Int)) = true := decide_eq_true (by omega)
   have g5' : decide (i < du.length) = true := decide_eq_true hil
   refine wN [(0, 1), (1, 1), (2, 1), (3, 1), (4, 1), (5, 1), (6, 1), (7, 1), (8, 1), (9, 1), (10, 1), (11, 1), (12, 1), (13, 1), (14, 1), (15, 1), (16, 1), (17, 1)] ?_
   have Ccb := Mem.cell HM21.out 0 rfl
   refine wT [0, 1, 2, 3, 4, 5, 6, 7, 8, 9, 10, 11, 12] ?_
   clear Ccb
   refine wI elemS 13 ((Mem.src HM21.out 1 rfl rowT_reads).1) (hy.out) fun eb22 eo23 hc24 => ?_
   refine wM 14 (.string y) (hc24 0 _ rfl) Tryz.underlying9 ?_
   refine wT [15] ?_
   refine wR 16 (run_lssS (b := decide (ltK y k)) rfl rfl rfl rfl) ?_
   refine wT [17] ?_
   refine wZ ?_
   refine wp_cond_split rfl (fun h25 => ?_) (fun h25 => ?_)
   ·have hlt : Hid (ltK y k) := Lib.hid (by simpa using h25)
    clear h25
    refine wp_skip (then_normal (wp_block (wN [(0, 1), (1, 1), (2, 1)] (wT [0, 1, 2] ?_))))
    refine wpS_nil (block_normal (then_normal ?_))
    refine ⟨by kernel_rfl, ?_⟩
    exact ⟨du.length - (i + 1), by omega, i + 1, rfl, rfl, (by omega), low_next hlo.out hy.out hlt.out, (Mem.only (M := [_, _]) HM21.out [0, 0] rfl)⟩
   ·have hnl : ¬ ltK y k := by simpa using h25
    clear h25
    have hat : Hid (lowN du k = i) := Lib.hid (lowN_of hlo.out (fun p hp => by rw [hy.out] at hp; obtain rfl := Option.some.inj hp; exact hnl) (by omega))
    have hins : Hid (insK k du = (du.take i ++ k :: du.drop i)) := Lib.hid (by rw [insK_at hni.out, hat.out])
    clear hnl
    refine wp_exit ?_
    refine then_exit (then_exit (block_exit ?_))
    refine then_normal ?_
    have HNL := Lib.hid (Mem.nilRow elemS HM21.out)
    have htl : (du.take i).length = i := by rw [List.length_take]; omega
    have hb1 : Hid ((([] : List ByteArray).length + (du.take i).length) * elemS.bytes ≤ 140737488355328) := Lib.hid (by rw [List.length_nil, htl]; show _ * 16 ≤ _; omega)
    have hb2 : Hid ((([] ++ du.take i : List ByteArray).length + [k].length) * elemS.bytes ≤ 140737488355328) := Lib.hid (by rw [List.nil_append, htl, List.length_singleton]; show _ * 16 ≤ _; omega)
    have hb3 : Hid ((([] ++ du.take i ++ [k] : List ByteArray).length + (du.drop i).length) * elemS.bytes ≤ 140737488355328) := Lib.hid (by rw [List.nil_append, List.length_append, htl, List.length_singleton, List.length_drop]; show _ * 16 ≤ _; omega)
    have hnew : Hid ([] ++ du.take i ++ [k] ++ du.drop i = (du.take i ++ k :: du.drop i)) := Lib.hid (by simp)
    clear htl
    refine wp_cut_F [55, 56, 57, 58, 59, 60, 61, 62, 63, 64, 65, 66, 67, 68, 69, 70, 71, 72, 73, 74] (fun vs W' => ∃ (up : Option Addr) (uc : Nat), Mem [boxT c (.cells #[.int .i64 q, .bool true, .string la, .slice up (du.take i ++ k :: du.drop i).length uc] 62 (0, 0)), rowT elemS (.slice up (du.take i ++ k :: du.drop i).length uc) (du.take i ++ k :: du.drop i)] H w W') ?_ ?_
    ·refine wp_region_taken [20] (fun k => k ∈ ([c] : List Nat)) (by kernel_rfl) rfl rfl ?_
     have hm26 := HNL.out.drew
     have HM27 := Lib.hid hm26
     clear hm26
     refine wpT_takeS (i := 0) (by kernel_rfl) (by kernel_rfl) ?_
     refine wS [0] ?_
     refine wpS_nil ?_
     refine wpT_takeS (i := 1) (by kernel_rfl) (by kernel_rfl) ?_
     refine wS [1] ?_
     refine wpS_nil ?_
     refine wpT_takeS (i := 2) (by kernel_rfl) (by kernel_rfl) ?_
     refine wS [2] ?_
     refine wpS_nil ?_
     refine wpT_takeS (i := 3) (by kernel_rfl) (by kernel_rfl) ?_
     refine wS [3] ?_
     refine wpS_nil ?_
     refine wpT_takeS (i := 4) (by kernel_rfl) (by kernel_rfl) ?_
     have Ccb := Mem.cell HM27.out 1 rfl
     refine wS [4] ?_
     clear Ccb
     refine wpS_nil ?_
     refine wpT_takeS (i := 5) (by kernel_rfl) (by kernel_rfl) ?_
     refine wS [5] ?_
     refine wpS_nil ?_
     refine wpT_takeS (i := 6) (by kernel_rfl) (by kernel_rfl) ?_
     refine wpS_read2 (i := 6) (d := some 61) rfl (by rfl) (fun _ _ => run_headE (E := elemS) (k := i) (by have := hyc.out; omega) rfl rfl rfl) rfl ?_
     simp only [Act.put, List.setIfInBounds_toArray, List.set_cons_succ, List.set_cons_zero]
     refine wpS_nil ?_
     refine wpT_takeS (i := 8) (by kernel_rfl) (by kernel_rfl) ?_
     refine wS [8] ?_
     refine wpS_nil ?_
     refine wpT_takeS (i := 11) (by kernel_rfl) (by kernel_rfl) ?_
     refine wS [11] ?_
     refine wpS_nil ?_
     refine wpT_takeS (i := 12) (by kernel_rfl) (by kernel_rfl) ?_
     refine wS [12] ?_
     refine wpS_nil ?_
     refine wpT_takeS (i := 13) (by kernel_rfl) (by kernel_rfl) ?_
     refine wS [13] ?_
     refine wpS_nil ?_
     refine wpT_takeS (i := 14) (by kernel_rfl) (by kernel_rfl) ?_
     have Ccb := Mem.cell HM27.out 1 rfl
     refine wS [14] ?_
     clear Ccb
     refine wpS_nil ?_
     refine wpT_takeS (i := 15) (by kernel_rfl) (by kernel_rfl) ?_
     refine wS [15] ?_
     refine wpS_nil ?_
     refine wpT_takeS (i := 16) (by kernel_rfl) (by kernel_rfl) ?_
     refine wpS_read2 (i := 16) (d := some 71) rfl (by rfl) (fun _ _ => run_tailE (E := elemS) (k := i) (by omega) rfl rfl rfl) rfl ?_
     simp only [Act.put, List.setIfInBounds_toArray, List.set_cons_succ, List.set_cons_zero]
     refine wpS_nil ?_
     refine wpT_ready 7 [9] (by kernel_rfl) (allT_cons ?_ (allT_cons ?_ allT_nil))
     ·refine opT_S (by kernel_rfl) ?_
      refine wpS_append (E := elemS) (i := 7) (d := some 62) (L2 := [_, _]) rfl (by rfl) rfl HM27.out 0 rfl rfl ((Mem.src HM27.out 2 rfl rowT_reads).take (by omega)) rfl (hb1.out) rfl (covS_box 0 rfl covS_nil) rfl ?_
      rintro nv31 W32 hm33 hg34
      have HM35 := Lib.hid hm33
      clear hm33
      simp only [Act.put, List.setIfInBounds_toArray, List.set_cons_succ, List.set_cons_zero]
      obtain ⟨np, nc, hnp⟩ := row_form (Mem.src HM35.out 0 rfl rowT_reads)
      subst hnp
      refine wpS_nil ?_
      refine wpT_ready 9 [] (by kernel_rfl) (allT_cons ?_ allT_nil)
      refine opT_S (by kernel_rfl) ?_
      refine wpS_build1 elemS (i := 9) (dd := 64) (y := k) rfl (by rfl) rfl rfl rfl (by decide) HM35.out (covS_box 1 rfl covS_nil) rfl ?_
      rintro b39 W40 hm41 hg42
      have HM43 := Lib.hid hm41
      clear hm41
      simp only [Act.put, List.setIfInBounds_toArray, List.set_cons_succ, List.set_cons_zero]
      refine wpS_nil ?_
      refine wpT_ready 10 [] (by kernel_rfl) (allT_cons ?_ allT_nil)
      refine opT_S (by kernel_rfl) ?_
      refine wpS_append (E := elemS) (i := 10) (d := some 65) (L2 := [_, _, _]) rfl (by rfl) rfl HM43.out 1 rfl rfl (Mem.src HM43.out 0 rfl rowT_reads) rfl (hb2.out) rfl (covS_box 1 rfl covS_nil) rfl ?_
      rintro nv47 W48 hm49 hg50
      have HM51 := Lib.hid hm49
      clear hm49
      simp only [Act.put, List.setIfInBounds_toArray, List.set_cons_succ, List.set_cons_zero]
      obtain ⟨np, nc, hnp⟩ := row_form (Mem.src HM51.out 0 rfl rowT_reads)
      subst hnp
      refine wpS_nil ?_
      refine wpT_ready 17 [] (by kernel_rfl) (allT_cons ?_ allT_nil)
      refine opT_S (by kernel_rfl) ?_
      refine wpS_append (E := elemS) (i := 17) (d := some 72) (L2 := [_, _, _]) rfl (by rfl) rfl HM51.out 0 rfl rfl ((Mem.src HM51.out 3 rfl rowT_reads).drop (by omega)) rfl (hb3.out) rfl (covS_box 1 rfl covS_nil) rfl ?_
      rintro nv55 W56 hm57 hg58
      have HM59 := Lib.hid hm57
      clear hm57
      simp only [Act.put, List.setIfInBounds_toArray, List.set_cons_succ, List.set_cons_zero]
      obtain ⟨np, nc, hnp⟩ := row_form (Mem.src HM59.out 0 rfl rowT_reads)
      subst hnp
      have HL := HM59.out
      rw [hnew.out] at HL
      rw [hnew.out]
      have HM60 := Lib.hid HL
      clear HL
      refine wpS_nil ?_
      refine wpT_takeS (i := 18) (by kernel_rfl) (by kernel_rfl) ?_
      refine wS [18] ?_
      refine wpS_nil ?_
      refine wpT_takeS (i := 19) (by kernel_rfl) (by kernel_rfl) ?_
      refine wS [19] ?_
      refine wpS_nil ?_
      refine wpT_ready 20 [] (by kernel_rfl) (allT_cons ?_ allT_nil)
      refine opT_S4 (by kernel_rfl) (by kernel_rfl) ?_
      refine wpS_store14 (i := 20) (L2 := [_, _, _]) (cs' := [.int .i64 q, .bool true, .string la, .slice np (du.take i ++ k :: du.drop i).length nc]) rfl (by rfl) rfl rfl rfl rfl (by kernel_rfl) rfl HM60.out 2 rfl rfl rfl rfl  rfl ?_
      rintro W62 hm61
      have HM64 := Lib.hid hm61
      clear hm61
      refine wpS_nil ?_
      refine wpT_end (by kernel_rfl) ?_
      refine then_normal ?_
      refine ⟨by kernel_rfl, ?_⟩
      refine ⟨np, nc, ?_⟩
      exact (Mem.only (M := [_, _]) HM64.out [0, 0] rfl)
     ·refine opT_S (by kernel_rfl) ?_
      refine wpS_build1 elemS (i := 9) (dd := 64) (y := k) rfl (by rfl) rfl rfl rfl (by decide) HM27.out (covS_box 1 rfl covS_nil) rfl ?_
      rintro b68 W69 hm70 hg71
      have HM72 := Lib.hid hm70
      clear hm70
      simp only [Act.put, List.setIfInBounds_toArray, List.set_cons_succ, List.set_cons_zero]
      refine wpS_nil ?_
      refine wpT_ready 7 [] (by kernel_rfl) (allT_cons ?_ allT_nil)
      refine opT_S (by kernel_rfl) ?_
      refine wpS_append (E := elemS) (i := 7) (d := some 62) (L2 := [_, _, _]) rfl (by rfl) rfl HM72.out 1 rfl rfl ((Mem.src HM72.out 3 rfl rowT_reads).take (by omega)) rfl (hb1.out) rfl (covS_box 1 rfl covS_nil) rfl ?_
      rintro nv76 W77 hm78 hg79
      have HM80 := Lib.hid hm78
      clear hm78
      simp only [Act.put, List.setIfInBounds_toArray, List.set_cons_succ, List.set_cons_zero]
      obtain ⟨np, nc, hnp⟩ := row_form (Mem.src HM80.out 0 rfl rowT_reads)
      subst hnp
      refine wpS_nil ?_
      refine wpT_ready 10 [] (by kernel_rfl) (allT_cons ?_ allT_nil)
      refine opT_S (by kernel_rfl) ?_
      refine wpS_append (E := elemS) (i := 10) (d := some 65) (L2 := [_, _, _]) rfl (by rfl) rfl HM80.out 0 rfl rfl (Mem.src HM80.out 1 rfl rowT_reads) rfl (hb2.out) rfl (covS_box 1 rfl covS_nil) rfl ?_
      rintro nv84 W85 hm86 hg87
      have HM88 := Lib.hid hm86
      clear hm86
      simp only [Act.put, List.setIfInBounds_toArray, List.set_cons_succ, List.set_cons_zero]
      obtain ⟨np, nc, hnp⟩ := row_form (Mem.src HM88.out 0 rfl rowT_reads)
      subst hnp
      refine wpS_nil ?_
      refine wpT_ready 17 [] (by kernel_rfl) (allT_cons ?_ allT_nil)
      refine opT_S (by kernel_rfl) ?_
      refine wpS_append (E := elemS) (i := 17) (d := some 72) (L2 := [_, _, _]) rfl (by rfl) rfl HM88.out 0 rfl rfl ((Mem.src HM88.out 3 rfl rowT_reads).drop (by omega)) rfl (hb3.out) rfl (covS_box 1 rfl covS_nil) rfl ?_
      rintro nv92 W93 hm94 hg95
      have HM96 := Lib.hid hm94
      clear hm94
      simp only [Act.put, List.setIfInBounds_toArray, List.set_cons_succ, List.set_cons_zero]
      obtain ⟨np, nc, hnp⟩ := row_form (Mem.src HM96.out 0 rfl rowT_reads)
      subst hnp
      have HL := HM96.out
      rw [hnew.out] at HL
      rw [hnew.out]
      have HM97 := Lib.hid HL
      clear HL
      refine wpS_nil ?_
      refine wpT_takeS (i := 18) (by kernel_rfl) (by kernel_rfl) ?_
      refine wS [18] ?_
      refine wpS_nil ?_
      refine wpT_takeS (i := 19) (by kernel_rfl) (by kernel_rfl) ?_
      refine wS [19] ?_
      refine wpS_nil ?_
      refine wpT_ready 20 [] (by kernel_rfl) (allT_cons ?_ allT_nil)
      refine opT_S4 (by kernel_rfl) (by kernel_rfl) ?_
      refine wpS_store14 (i := 20) (L2 := [_, _, _]) (cs' := [.int .i64 q, .bool true, .string la, .slice np (du.take i ++ k :: du.drop i).length nc]) rfl (by rfl) rfl rfl rfl rfl (by kernel_rfl) rfl HM97.out 2 rfl rfl rfl rfl  rfl ?_
      rintro W99 hm98
      have HM101 := Lib.hid hm98
      clear hm98
      refine wpS_nil ?_
      refine wpT_end (by kernel_rfl) ?_
      refine then_normal ?_
      refine ⟨by kernel_rfl, ?_⟩
      refine ⟨np, nc, ?_⟩
      exact (Mem.only (M := [_, _]) HM101.out [0, 0] rfl)
    rintro vs W' ⟨up, uc, hm⟩
    simp only [putAll, List.map_cons, List.map_nil, Act.put, List.setIfInBounds_toArray, List.set_cons_succ, List.set_cons_zero]
    have HM102 := Lib.hid hm
    clear hm
    refine then_normal (wp_seq (wQ ?_))
    refine wp_ret (bodyPost_ret (results_tmp rfl _ _ _) rfl ?_)
    rw [hbb.out, hbf.out, hins.out]
    exact does_ret (Mem.toCu (F := (⟨q, true, la, (du.take i ++ k :: du.drop i)⟩ : Fd)) (Mem.only (M := [_, _]) HM102.out [0, 0] rfl)) rfl rfl
  ·have hat : Hid (lowN du k = i) := Lib.hid (lowN_of hlo.out (fun p hp => by rw [List.getElem?_eq_none (by omega)] at hp; cases hp) (by omega))
   have hins : Hid (insK k du = (du.take i ++ k :: du.drop i)) := Lib.hid (by rw [insK_at hni.out, hat.out])
   have g5 : decide ((i : Int) < (du.length : Int)) = false := decide_eq_false (by omega)
   have g5' : decide (i < du.length) = false := decide_eq_false hil
   refine wN [(0, 1), (1, 1), (2, 1), (3, 1), (4, 1), (5, 1), (6, 1), (7, 1), (8, 1), (9, 1), (10, 1), (11, 1), (12, 1), (13, 1), (14, 1), (15, 1), (16, 1), (17, 1)] ?_
   have Ccb := Mem.cell HM21.out 0 rfl
   refine wT [0, 1, 2, 3, 4, 5, 6, 7, 8, 9, 10, 11, 12] ?_
   clear Ccb
   refine wK 13 ?_
   refine wK 14 ?_
   refine wT [15] ?_
   refine wK 16 ?_
   refine wT [17] ?_
   refine wZ (wp_cond_false rfl (wp_exit ?_))
   refine then_exit (then_exit (block_exit ?_))
   refine then_normal ?_
   have HNL := Lib.hid (Mem.nilRow elemS HM21.out)
   have htl : (du.take i).length = i := by rw [List.length_take]; omega
   have hb1 : Hid ((([] : List ByteArray).length + (du.take i).length) * elemS.bytes ≤ 140737488355328) := Lib.hid (by rw [List.length_nil, htl]; show _ * 16 ≤ _; omega)
   have hb2 : Hid ((([] ++ du.take i : List ByteArray).length + [k].length) * elemS.bytes ≤ 140737488355328) := Lib.hid (by rw [List.nil_append, htl, List.length_singleton]; show _ * 16 ≤ _; omega)
   have hb3 : Hid ((([] ++ du.take i ++ [k] : List ByteArray).length + (du.drop i).length) * elemS.bytes ≤ 140737488355328) := Lib.hid (by rw [List.nil_append, List.length_append, htl, List.length_singleton, List.length_drop]; show _ * 16 ≤ _; omega)
   have hnew : Hid ([] ++ du.take i ++ [k] ++ du.drop i = (du.take i ++ k :: du.drop i)) := Lib.hid (by simp)
   clear htl
   refine wp_cut_F [55, 56, 57, 58, 59, 60, 61, 62, 63, 64, 65, 66, 67, 68, 69, 70, 71, 72, 73, 74] (fun vs W' => ∃ (up : Option Addr) (uc : Nat), Mem [boxT c (.cells #[.int .i64 q, .bool true, .string la, .slice up (du.take i ++ k :: du.drop i).length uc] 62 (0, 0)), rowT elemS (.slice up (du.take i ++ k :: du.drop i).length uc) (du.take i ++ k :: du.drop i)] H w W') ?_ ?_
   ·refine wp_region_taken [20] (fun k => k ∈ ([c] : List Nat)) (by kernel_rfl) rfl rfl ?_
    have hm103 := HNL.out.drew
    have HM104 := Lib.hid hm103
    clear hm103
    refine wpT_takeS (i := 0) (by kernel_rfl) (by kernel_rfl) ?_
    refine wS [0] ?_
    refine wpS_nil ?_
    refine wpT_takeS (i := 1) (by kernel_rfl) (by kernel_rfl) ?_
    refine wS [1] ?_
    refine wpS_nil ?_
    refine wpT_takeS (i := 2) (by kernel_rfl) (by kernel_rfl) ?_
    refine wS [2] ?_
    refine wpS_nil ?_
    refine wpT_takeS (i := 3) (by kernel_rfl) (by kernel_rfl) ?_
    refine wS [3] ?_
    refine wpS_nil ?_
    refine wpT_takeS (i := 4) (by kernel_rfl) (by kernel_rfl) ?_
    have Ccb := Mem.cell HM104.out 1 rfl
    refine wS [4] ?_
    clear Ccb
    refine wpS_nil ?_
    refine wpT_takeS (i := 5) (by kernel_rfl) (by kernel_rfl) ?_
    refine wS [5] ?_
    refine wpS_nil ?_
    refine wpT_takeS (i := 6) (by kernel_rfl) (by kernel_rfl) ?_
    refine wpS_read2 (i := 6) (d := some 61) rfl (by rfl) (fun _ _ => run_headE (E := elemS) (k := i) (by have := hyc.out; omega) rfl rfl rfl) rfl ?_
    simp only [Act.put, List.setIfInBounds_toArray, List.set_cons_succ, List.set_cons_zero]
    refine wpS_nil ?_
    refine wpT_takeS (i := 8) (by kernel_rfl) (by kernel_rfl) ?_
    refine wS [8] ?_
    refine wpS_nil ?_
    refine wpT_takeS (i := 11) (by kernel_rfl) (by kernel_rfl) ?_
    refine wS [11] ?_
    refine wpS_nil ?_
    refine wpT_takeS (i := 12) (by kernel_rfl) (by kernel_rfl) ?_
    refine wS [12] ?_
    refine wpS_nil ?_
    refine wpT_takeS (i := 13) (by kernel_rfl) (by kernel_rfl) ?_
    refine wS [13] ?_
    refine wpS_nil ?_
    refine wpT_takeS (i := 14) (by kernel_rfl) (by kernel_rfl) ?_
    have Ccb := Mem.cell HM104.out 1 rfl
    refine wS [14] ?_
    clear Ccb
    refine wpS_nil ?_
    refine wpT_takeS (i := 15) (by kernel_rfl) (by kernel_rfl) ?_
    refine wS [15] ?_
    refine wpS_nil ?_
    refine wpT_takeS (i := 16) (by kernel_rfl) (by kernel_rfl) ?_
    refine wpS_read2 (i := 16) (d := some 71) rfl (by rfl) (fun _ _ => run_tailE (E := elemS) (k := i) (by omega) rfl rfl rfl) rfl ?_
    simp only [Act.put, List.setIfInBounds_toArray, List.set_cons_succ, List.set_cons_zero]
    refine wpS_nil ?_
    refine wpT_ready 7 [9] (by kernel_rfl) (allT_cons ?_ (allT_cons ?_ allT_nil))
    ·refine opT_S (by kernel_rfl) ?_
     refine wpS_append (E := elemS) (i := 7) (d := some 62) (L2 := [_, _]) rfl (by rfl) rfl HM104.out 0 rfl rfl ((Mem.src HM104.out 2 rfl rowT_reads).take (by omega)) rfl (hb1.out) rfl (covS_box 0 rfl covS_nil) rfl ?_
     rintro nv108 W109 hm110 hg111
     have HM112 := Lib.hid hm110
     clear hm110
     simp only [Act.put, List.setIfInBounds_toArray, List.set_cons_succ, List.set_cons_zero]
     obtain ⟨np, nc, hnp⟩ := row_form (Mem.src HM112.out 0 rfl rowT_reads)
     subst hnp
     refine wpS_nil ?_
     refine wpT_ready 9 [] (by kernel_rfl) (allT_cons ?_ allT_nil)
     refine opT_S (by kernel_rfl) ?_
     refine wpS_build1 elemS (i := 9) (dd := 64) (y := k) rfl (by rfl) rfl rfl rfl (by decide) HM112.out (covS_box 1 rfl covS_nil) rfl ?_
     rintro b116 W117 hm118 hg119
     have HM120 := Lib.hid hm118
     clear hm118
     simp only [Act.put, List.setIfInBounds_toArray, List.set_cons_succ, List.set_cons_zero]
     refine wpS_nil ?_
     refine wpT_ready 10 [] (by kernel_rfl) (allT_cons ?_ allT_nil)
     refine opT_S (by kernel_rfl) ?_
     refine wpS_append (E := elemS) (i := 10) (d := some 65) (L2 := [_, _, _]) rfl (by rfl) rfl HM120.out 1 rfl rfl (Mem.src HM120.out 0 rfl rowT_reads) rfl (hb2.out) rfl (covS_box 1 rfl covS_nil) rfl ?_
     rintro nv124 W125 hm126 hg127
     have HM128 := Lib.hid hm126
     clear hm126
     simp only [Act.put, List.setIfInBounds_toArray, List.set_cons_succ, List.set_cons_zero]
     obtain ⟨np, nc, hnp⟩ := row_form (Mem.src HM128.out 0 rfl rowT_reads)
     subst hnp
     refine wpS_nil ?_
     refine wpT_ready 17 [] (by kernel_rfl) (allT_cons ?_ allT_nil)
     refine opT_S (by kernel_rfl) ?_
     refine wpS_append (E := elemS) (i := 17) (d := some 72) (L2 := [_, _, _]) rfl (by rfl) rfl HM128.out 0 rfl rfl ((Mem.src HM128.out 3 rfl rowT_reads).drop (by omega)) rfl (hb3.out) rfl (covS_box 1 rfl covS_nil) rfl ?_
     rintro nv132 W133 hm134 hg135
     have HM136 := Lib.hid hm134
     clear hm134
     simp only [Act.put, List.setIfInBounds_toArray, List.set_cons_succ, List.set_cons_zero]
     obtain ⟨np, nc, hnp⟩ := row_form (Mem.src HM136.out 0 rfl rowT_reads)
     subst hnp
     have HL := HM136.out
     rw [hnew.out] at HL
     rw [hnew.out]
     have HM137 := Lib.hid HL
     clear HL
     refine wpS_nil ?_
     refine wpT_takeS (i := 18) (by kernel_rfl) (by kernel_rfl) ?_
     refine wS [18] ?_
     refine wpS_nil ?_
     refine wpT_takeS (i := 19) (by kernel_rfl) (by kernel_rfl) ?_
     refine wS [19] ?_
     refine wpS_nil ?_
     refine wpT_ready 20 [] (by kernel_rfl) (allT_cons ?_ allT_nil)
     refine opT_S4 (by kernel_rfl) (by kernel_rfl) ?_
     refine wpS_store14 (i := 20) (L2 := [_, _, _]) (cs' := [.int .i64 q, .bool true, .string la, .slice np (du.take i ++ k :: du.drop i).length nc]) rfl (by rfl) rfl rfl rfl rfl (by kernel_rfl) rfl HM137.out 2 rfl rfl rfl rfl  rfl ?_
     rintro W139 hm138
     have HM141 := Lib.hid hm138
     clear hm138
     refine wpS_nil ?_
     refine wpT_end (by kernel_rfl) ?_
     refine then_normal ?_
     refine ⟨by kernel_rfl, ?_⟩
     refine ⟨np, nc, ?_⟩
     exact (Mem.only (M := [_, _]) HM141.out [0, 0] rfl)
    ·refine opT_S (by kernel_rfl) ?_
     refine wpS_build1 elemS (i := 9) (dd := 64) (y := k) rfl (by rfl) rfl rfl rfl (by decide) HM104.out (covS_box 1 rfl covS_nil) rfl ?_
     rintro b145 W146 hm147 hg148
     have HM149 := Lib.hid hm147
     clear hm147
     simp only [Act.put, List.setIfInBounds_toArray, List.set_cons_succ, List.set_cons_zero]
     refine wpS_nil ?_
     refine wpT_ready 7 [] (by kernel_rfl) (allT_cons ?_ allT_nil)
     refine opT_S (by kernel_rfl) ?_
     refine wpS_append (E := elemS) (i := 7) (d := some 62) (L2 := [_, _, _]) rfl (by rfl) rfl HM149.out 1 rfl rfl ((Mem.src HM149.out 3 rfl rowT_reads).take (by omega)) rfl (hb1.out) rfl (covS_box 1 rfl covS_nil) rfl ?_
     rintro nv153 W154 hm155 hg156
     have HM157 := Lib.hid hm155
     clear hm155
     simp only [Act.put, List.setIfInBounds_toArray, List.set_cons_succ, List.set_cons_zero]
     obtain ⟨np, nc, hnp⟩ := row_form (Mem.src HM157.out 0 rfl rowT_reads)
     subst hnp
     refine wpS_nil ?_
     refine wpT_ready 10 [] (by kernel_rfl) (allT_cons ?_ allT_nil)
     refine opT_S (by kernel_rfl) ?_
     refine wpS_append (E := elemS) (i := 10) (d := some 65) (L2 := [_, _, _]) rfl (by rfl) rfl HM157.out 0 rfl rfl (Mem.src HM157.out 1 rfl rowT_reads) rfl (hb2.out) rfl (covS_box 1 rfl covS_nil) rfl ?_
     rintro nv161 W162 hm163 hg164
     have HM165 := Lib.hid hm163
     clear hm163
     simp only [Act.put, List.setIfInBounds_toArray, List.set_cons_succ, List.set_cons_zero]
     obtain ⟨np, nc, hnp⟩ := row_form (Mem.src HM165.out 0 rfl rowT_reads)
     subst hnp
     refine wpS_nil ?_
     refine wpT_ready 17 [] (by kernel_rfl) (allT_cons ?_ allT_nil)
     refine opT_S (by kernel_rfl) ?_
     refine wpS_append (E := elemS) (i := 17) (d := some 72) (L2 := [_, _, _]) rfl (by rfl) rfl HM165.out 0 rfl rfl ((Mem.src HM165.out 3 rfl rowT_reads).drop (by omega)) rfl (hb3.out) rfl (covS_box 1 rfl covS_nil) rfl ?_
     rintro nv169 W170 hm171 hg172
     have HM173 := Lib.hid hm171
     clear hm171
     simp only [Act.put, List.setIfInBounds_toArray, List.set_cons_succ, List.set_cons_zero]
     obtain ⟨np, nc, hnp⟩ := row_form (Mem.src HM173.out 0 rfl rowT_reads)
     subst hnp
     have HL := HM173.out
     rw [hnew.out] at HL
     rw [hnew.out]
     have HM174 := Lib.hid HL
     clear HL
     refine wpS_nil ?_
     refine wpT_takeS (i := 18) (by kernel_rfl) (by kernel_rfl) ?_
     refine wS [18] ?_
     refine wpS_nil ?_
     refine wpT_takeS (i := 19) (by kernel_rfl) (by kernel_rfl) ?_
     refine wS [19] ?_
     refine wpS_nil ?_
     refine wpT_ready 20 [] (by kernel_rfl) (allT_cons ?_ allT_nil)
     refine opT_S4 (by kernel_rfl) (by kernel_rfl) ?_
     refine wpS_store14 (i := 20) (L2 := [_, _, _]) (cs' := [.int .i64 q, .bool true, .string la, .slice np (du.take i ++ k :: du.drop i).length nc]) rfl (by rfl) rfl rfl rfl rfl (by kernel_rfl) rfl HM174.out 2 rfl rfl rfl rfl  rfl ?_
     rintro W176 hm175
     have HM178 := Lib.hid hm175
     clear hm175
     refine wpS_nil ?_
     refine wpT_end (by kernel_rfl) ?_
     refine then_normal ?_
     refine ⟨by kernel_rfl, ?_⟩
     refine ⟨np, nc, ?_⟩
     exact (Mem.only (M := [_, _]) HM178.out [0, 0] rfl)
   rintro vs W' ⟨up, uc, hm⟩
   simp only [putAll, List.map_cons, List.map_nil, Act.put, List.setIfInBounds_toArray, List.set_cons_succ, List.set_cons_zero]
   have HM179 := Lib.hid hm
   clear hm
   refine then_normal (wp_seq (wQ ?_))
   refine wp_ret (bodyPost_ret (results_tmp rfl _ _ _) rfl ?_)
   rw [hbb.out, hbf.out, hins.out]
   exact does_ret (Mem.toCu (F := (⟨q, true, la, (du.take i ++ k :: du.drop i)⟩ : Fd)) (Mem.only (M := [_, _]) HM179.out [0, 0] rfl)) rfl rfl
 ·have gp : (ofK k != q) = true := bne_iff_ne.2 hpart
  have hbb : Hid (backB (⟨q, an, la, du⟩ : Fd) k = false) := Lib.hid (by unfold backB; rw [decide_eq_false hpart, Bool.false_and])
  have hbf : Hid (backF (⟨q, an, la, du⟩ : Fd) k = (⟨q, an, la, du⟩ : Fd)) := Lib.hid (if_neg (by rw [hbb.out]; exact Bool.false_ne_true))
  clear hpart
  refine wp_region_M (fun k => k ∈ ([c] : List Nat)) [(0, 1), (2, 0), (3, 0), (4, 0), (5, 2), (1, 3), (6, 1), (7, 1), (8, 1), (9, 1), (10, 1), (11, 1), (12, 1), (13, 1), (14, 1), (15, 1), (16, 1), (17, 1), (18, 1), (19, 1), (20, 1), (21, 1)] (by kernel_rfl) (by kernel_rfl) HM0.out ?_
  intro W180 hm181
  have HM182 := Lib.hid hm181
  clear hm181
  refine wT [0] ?_
  refine wA [2, 3, 4] ?_
  have Ccb := Mem.cell HM182.out 0 rfl
  refine wS [5] ?_
  clear Ccb
  refine wD1h (hS := (covS_box 0 rfl covS_nil)) 1 [_, _] [_, _] Tryz.call31 (ofrd_d k (Nat.le_trans (keyB_size hk) (by decide))) HM182 [] fun W184 HM186 => ?_
  have Ccb := Mem.cell HM186.out 0 rfl
  refine wT [6, 7, 8, 9, 10, 11, 12, 13, 14, 15, 16, 17, 18, 19] ?_
  clear Ccb
  refine wK 20 ?_
  refine wT [21] ?_
  refine wZ (wp_cond_true rfl (wp_seq (wQ ?_)))
  refine wp_ret (then_ret (bodyPost_ret (results_tmp rfl _ _ _) rfl ?_))
  rw [hbb.out, hbf.out]
  exact does_ret (Mem.toCu (F := (⟨q, an, la, du⟩ : Fd)) (Mem.only (M := [_, _]) HM186.out [0, 0] rfl)) rfl rfl
 ·have gp : (ofK k != q) = false := bne_eq_false_iff_eq.2 hpart
  have hbb : Hid (backB (⟨q, false, la, du⟩ : Fd) k = false) := Lib.hid (by unfold backB; rw [decide_eq_true hpart]; rfl)
  have hbf : Hid (backF (⟨q, false, la, du⟩ : Fd) k = (⟨q, false, la, du⟩ : Fd)) := Lib.hid (if_neg (by rw [hbb.out]; exact Bool.false_ne_true))
  clear hpart
  refine wp_region_M (fun k => k ∈ ([c] : List Nat)) [(0, 1), (2, 0), (3, 0), (4, 0), (5, 2), (1, 3), (6, 1), (7, 1), (8, 1), (9, 1), (10, 1), (11, 1), (12, 1), (13, 1), (14, 1), (15, 1), (16, 1), (17, 1), (18, 1), (19, 1), (20, 1), (21, 1)] (by kernel_rfl) (by kernel_rfl) HM0.out ?_
  intro W187 hm188
  have HM189 := Lib.hid hm188
  clear hm188
  refine wT [0] ?_
  refine wA [2, 3, 4] ?_
  have Ccb := Mem.cell HM189.out 0 rfl
  refine wS [5] ?_
  clear Ccb
  refine wD1h (hS := (covS_box 0 rfl covS_nil)) 1 [_, _] [_, _] Tryz.call31 (ofrd_d k (Nat.le_trans (keyB_size hk) (by decide))) HM189 [] fun W191 HM193 => ?_
  have Ccb := Mem.cell HM193.out 0 rfl
  refine wT [6, 7, 8, 9, 10, 11, 12, 13, 14, 15, 16, 17, 18, 19] ?_
  clear Ccb
  refine wK 20 ?_
  refine wT [21] ?_
  refine wZ (wp_cond_true rfl (wp_seq (wQ ?_)))
  refine wp_ret (then_ret (bodyPost_ret (results_tmp rfl _ _ _) rfl ?_))
  rw [hbb.out, hbf.out]
  exact does_ret (Mem.toCu (F := (⟨q, false, la, du⟩ : Fd)) (Mem.only (M := [_, _]) HM193.out [0, 0] rfl)) rfl rfl
 ·have gp : (ofK k != q) = false := bne_eq_false_iff_eq.2 hpart
  have hbb : Hid (backB (⟨q, true, la, du⟩ : Fd) k = false) := Lib.hid (by unfold backB; rw [decide_eq_true hpart, decide_eq_true hgt']; rfl)
  have hbf : Hid (backF (⟨q, true, la, du⟩ : Fd) k = (⟨q, true, la, du⟩ : Fd)) := Lib.hid (if_neg (by rw [hbb.out]; exact Bool.false_ne_true))
  clear hpart
  have hgt := Lib.hid hgt'
  clear hgt'
  refine wp_region_M (fun k => k ∈ ([c] : List Nat)) [(0, 1), (2, 0), (3, 0), (4, 0), (5, 2), (1, 3), (6, 1), (7, 1), (8, 1), (9, 1), (10, 1), (11, 1), (12, 1), (13, 1), (14, 1), (15, 1), (16, 1), (17, 1), (18, 1), (19, 1), (20, 1), (21, 1)] (by kernel_rfl) (by kernel_rfl) HM0.out ?_
  intro W194 hm195
  have HM196 := Lib.hid hm195
  clear hm195
  refine wT [0] ?_
  refine wA [2, 3, 4] ?_
  have Ccb := Mem.cell HM196.out 0 rfl
  refine wS [5] ?_
  clear Ccb
  refine wD1h (hS := (covS_box 0 rfl covS_nil)) 1 [_, _] [_, _] Tryz.call31 (ofrd_d k (Nat.le_trans (keyB_size hk) (by decide))) HM196 [] fun W198 HM200 => ?_
  have Ccb := Mem.cell HM200.out 0 rfl
  refine wT [6, 7, 8, 9, 10, 11, 12, 13, 14, 15, 16, 17, 18, 19] ?_
  clear Ccb
  refine wR 20 (run_gtrS (b := true) (decide_eq_true hgt.out) rfl rfl rfl) ?_
  refine wT [21] ?_
  refine wZ (wp_cond_true rfl (wp_seq (wQ ?_)))
  refine wp_ret (then_ret (bodyPost_ret (results_tmp rfl _ _ _) rfl ?_))
  rw [hbb.out, hbf.out]
  exact does_ret (Mem.toCu (F := (⟨q, true, la, du⟩ : Fd)) (Mem.only (M := [_, _]) HM200.out [0, 0] rfl)) rfl rfl
end Go.Proofs.YtcbnhakfijiioaaGreat
