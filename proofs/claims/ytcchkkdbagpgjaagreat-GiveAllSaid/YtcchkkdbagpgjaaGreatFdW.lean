/- The landed cursor: what it goes by. -/
import Derived.Test.YtcchkkdbagpgjaaGreatPD
import Derived.Test.YtcchkkdbagpgjaaGreatVtX
import Derived.Test.YtcchkkdbagpgjaaGreatPA
namespace Go.Proofs.YtcchkkdbagpgjaaGreat
open Go Go.RowKit Go.BigFrame
def tlV (p : Option Addr) (n c m : Nat) : Value := .slice (if c = m then p else p.map fun a => a.add (m * elemS.k)) (n - m) (c - m)
def popV : Option ByteArray → Value
 | some k => .tuple #[.string k, .bool true]
 | none => .tuple #[.string ⟨#[]⟩, .bool false]
theorem FdIn.new (n : Int) : FdIn (newF n) := ⟨fun _ => rfl, (fun h => by cases h), Nat.zero_le _⟩
theorem keysV_pos {S : Vt} (hS : VtOk S) (n : Int) : ∀ k ∈ keysV S n, 0 < k.size := fun k hk => by
 obtain ⟨⟨x, h1⟩, _⟩ := mem_keysV.1 hk
 have h2 := hS.key _ h1
 unfold keyB at h2
 exact (of_decide_eq_true h2).1
theorem keysV_3 {S : Vt} (n : Int) (hl : S.b.length ≤ 3000) : (keysV S n).length ≤ 3000 := by rw [keysV_len]; exact Nat.le_trans List.countP_le_length hl
theorem FdIn.next {F F' : Fd} {ks : List ByteArray} {o : Option ByteArray} (h : FdIn F) (hk : ∀ k ∈ ks, 0 < k.size) (hn : nextF F ks = (F', o)) : FdIn F' := by
 have hs := (popD_sub ks F.due).length_le
 rcases next_ways F ks with ⟨k, r, h1, h2⟩ | ⟨k, h1, h3, h2⟩ | ⟨h1, _, h2⟩
 ·rw [h1] at hs
  rw [h2] at hn
  obtain rfl := (Prod.mk.inj hn).1
  exact ⟨h.no, h.some, Nat.le_trans hs h.len⟩
 ·rw [h2] at hn
  obtain rfl := (Prod.mk.inj hn).1
  exact ⟨(fun h => by cases h), fun _ => hk k (List.mem_of_find?_eq_some h3), Nat.zero_le _⟩
 ·rw [h2] at hn
  obtain rfl := (Prod.mk.inj hn).1
  exact ⟨h.no, h.some, Nat.zero_le _⟩
theorem FdIn.back {F : Fd} (h : FdIn F) (k : ByteArray) (hl : F.due.length < 2000) : FdIn (backF F k) := by
 unfold backF
 split
 ·exact ⟨h.no, h.some, Nat.le_trans (insK_len k F.due) hl⟩
 ·exact h
theorem perm_nil {xs : List ByteArray} (h : xs.Perm []) : xs.length = 0 := h.length_eq
set_option maxHeartbeats 4000000 in
set_option maxRecDepth 100000 in
theorem fnew_d (n : Int) (h : 0 ≤ n ∧ n < 16) : DoesU Tryz.prog 41 #[.int .i64 n] [] (fun u => [fdN u (newF n)]) := by
 intro w H hp
 have HM0 := Lib.hid (mem_refl hp)
 clear hp
 go_enter Tryz.func41, Tryz.ntmps41
 refine wp_seq (wQ ?_)
 refine wp_seq (wp_seq ?_)
 have g1 : decide (n < (0 : Int)) = false := decide_eq_false (by omega)
 have g2 : decide ((16 : Int) ≤ n) = false := decide_eq_false (by omega)
 ·skip
  refine wQ ?_
  refine wp_cond_false rfl (wp_skip (then_normal (wp_seq (wN [(0, 1), (1, 1), (2, 3), (3, 1)] (wT [0, 1] ?_)))))
  refine wBh 2 HM0 fun b3 W2 HM4 => ?_
  refine wT [3] ?_
  refine wZ (wp_ret (bodyPost_ret (results_tmp rfl _ _ _) rfl ?_))
  exact doesU_ret (post := fun u => [fdN u (newF n)]) (Mem.addEx b3 (Mem.addPr rfl (Mem.toFd (FdIn.new n) (Mem.nilHd (Mem.only (M := [_]) HM4.out [0] rfl))))) rfl
set_option maxHeartbeats 4000000 in
set_option maxRecDepth 100000 in
theorem ahead_d (c : Nat) (n : Int) (k : ByteArray) (pd : Option Addr) (nd cd : Nat) (K : At) (pk : Option Addr) (ck : Nat) (ks : List ByteArray) (hK : Reads elemS K (.slice pk ks.length ck) ks) (hs : ks.Pairwise ltK) (hl : ks.length ≤ 3000) : Does Tryz.prog 132 #[.pointer (some ⟨c, 0, none⟩), .slice pk ks.length ck] [boxT c (.cells #[.int .i64 n, .string k, .slice pd nd cd] 148 (0, 0)), K] (tlV pk ks.length ck (pastN ks k)) [boxT c (.cells #[.int .i64 n, .string k, .slice pd nd cd] 148 (0, 0)), K] := by
 intro w H hp
 have HM0 := Lib.hid (mem_refl hp)
 clear hp
 go_enter Tryz.func132, Tryz.ntmps132
 refine wp_seq (wQ ?_)
 refine wp_seq ?_
 obtain ⟨z, hb'⟩ := bool_letter (hasL ks k)
 obtain ⟨q, hlw'⟩ : ∃ q, lowN ks k = q := ⟨_, rfl⟩
 have hmk0 := pastN_le (k := k) hs
 obtain ⟨m, hm'⟩ : ∃ m, pastN ks k = m := ⟨_, rfl⟩
 have hmk : m ≤ ks.length := by rw [← hm']; exact hmk0
 clear hmk0
 rw [hm']
 cases z
 ·have hqm : m = q := by rw [← hm', ← hlw']; unfold pastN; rw [if_neg (by rw [hb']; exact Bool.false_ne_true)]
  subst hqm
  have hb := Lib.hid hb'
  clear hb'
  have hm : Hid (pastN ks k = m) := Lib.hid hm'
  clear hm'
  have hlw := Lib.hid hlw'
  clear hlw'
  refine wN [(0, 1), (1, 1), (2, 1), (3, 1), (4, 1), (5, 3), (6, 1), (7, 1), (8, 1), (9, 1), (10, 1)] ?_
  have Cbx := Mem.cell HM0.out 0 rfl
  refine wT [0, 1, 2, 3, 4] ?_
  clear Cbx
  refine wD2 5 [_] [_, _] Tryz.call146 (ksearch_d K _ ks (fun W H h => (hK W H h).1) hs hl k) HM0 [1] fun W2 hm1 => ?_
  rw [hb.out, hlw.out]
  have HM3 := Lib.hid hm1
  clear hm1
  refine wT [6, 7, 8, 9, 10] ?_
  refine wZ (wp_seq (wp_seq (wQ ?_)))
  refine wp_cond_false rfl (wp_skip (then_normal (wp_seq (wN [(0, 1), (1, 1), (2, 1), (3, 1)] (wT [0, 1] ?_)))))
  refine wR 2 (run_tailE (E := elemS) (k := m) hmk rfl rfl rfl) ?_
  refine wT [3] ?_
  refine wZ (wp_ret (bodyPost_ret (results_tmp rfl _ _ _) rfl ?_))
  exact does_ret (Mem.only (M := [_, _]) HM3.out [1, 0] rfl) rfl rfl
 ·have hqm : m = q + 1 := by rw [← hm', ← hlw']; unfold pastN; rw [if_pos hb']
  have hqm1 : Hid ((q : Int) + 1 = (m : Int)) := Lib.hid (by omega)
  have hb := Lib.hid hb'
  clear hb'
  have hm : Hid (pastN ks k = m) := Lib.hid hm'
  clear hm'
  have hlw := Lib.hid hlw'
  clear hlw'
  refine wN [(0, 1), (1, 1), (2, 1), (3, 1), (4, 1), (5, 3), (6, 1), (7, 1), (8, 1), (9, 1), (10, 1)] ?_
  have Cbx := Mem.cell HM0.out 0 rfl
  refine wT [0, 1, 2, 3, 4] ?_
  clear Cbx
  refine wD2 5 [_] [_, _] Tryz.call146 (ksearch_d K _ ks (fun W H h => (hK W H h).1) hs hl k) HM0 [1] fun W5 hm4 => ?_
  rw [hb.out, hlw.out]
  have HM6 := Lib.hid hm4
  clear hm4
  refine wT [6, 7, 8, 9, 10] ?_
  refine wZ (wp_seq (wp_seq (wQ ?_)))
  refine wp_cond_true rfl (wN [(0, 1), (1, 1), (2, 1)] (wT [0] ?_))
  refine wT [1] ?_
  rw [hqm1.out]
  refine wT [2] ?_
  refine wZ (wp_seq (wN [(0, 1), (1, 1), (2, 1), (3, 1)] (wT [0, 1] ?_)))
  refine wR 2 (run_tailE (E := elemS) (k := m) hmk rfl rfl rfl) ?_
  refine wT [3] ?_
  refine wZ (wp_ret (bodyPost_ret (results_tmp rfl _ _ _) rfl ?_))
  exact does_ret (Mem.only (M := [_, _]) HM6.out [1, 0] rfl) rfl rfl
set_option maxHeartbeats 4000000 in
set_option maxRecDepth 100000 in
theorem tahead_s (c : Nat) (n : Int) (k : ByteArray) (pd : Option Addr) (nd cd : Nat) (K : At) (pk : Option Addr) (ck : Nat) (ks : List ByteArray) (hK : Reads elemS K (.slice pk ks.length ck) ks) (hs : ks.Pairwise ltK) (hl : ks.length ≤ 3000) (y : ByteArray) (hy : ks[pastN ks k]? = some y) : Does Tryz.prog 127 #[.pointer (some ⟨c, 0, none⟩), .slice pk ks.length ck] [boxT c (.cells #[.int .i64 n, .string k, .slice pd nd cd] 148 (0, 0)), K] (.tuple #[.string y, .bool true]) [boxT c (.cells #[.int .i64 n, .string y, .slice pd nd cd] 148 (0, 0)), K] := by
 intro w H hp
 have HM0 := Lib.hid (mem_refl hp)
 clear hp
 obtain ⟨m, hm'⟩ : ∃ m, pastN ks k = m := ⟨_, rfl⟩
 rw [hm'] at hy
 have hlt := (List.getElem?_eq_some_iff.1 hy).1
 have hmk : Hid (m ≤ ks.length) := Lib.hid (Nat.le_of_lt hlt)
 have hy2 : Hid ((ks.drop m)[0]? = some y) := Lib.hid (by rw [List.getElem?_drop, Nat.add_zero]; exact hy)
 have g1 : ((((ks.length - m : Nat) : Int)) == (0 : Int)) = false := beq_eq_false_iff_ne.2 (by omega)
 clear hy
 have hm := Lib.hid hm'
 clear hm'
 go_enter Tryz.func127, Tryz.ntmps127
 refine wp_seq (wQ ?_)
 refine wp_seq (wN [(0, 1), (1, 1), (2, 3), (3, 1)] (wT [0, 1] ?_))
 refine wD2 2 [] [_, _] Tryz.call132 (ahead_d c n k pd nd cd K pk ck ks hK hs hl) HM0 [0, 0] fun W2 hm1 => ?_
 unfold tlV
 rw [hm.out]
 have HM3 := Lib.hid hm1
 clear hm1
 refine wT [3] ?_
 refine wZ (wp_seq (wp_seq (wQ ?_)))
 refine wp_cond_false rfl (wp_skip (then_normal (wp_seq (wN [(0, 1), (1, 1), (2, 1), (3, 1), (4, 1), (5, 1), (6, 3)] (wT [0, 1] ?_)))))
 refine wI elemS 2 (((Mem.src HM3.out 1 rfl hK).drop hmk.out).1) (hy2.out) fun eb4 eo5 hc6 => ?_
 refine wM 3 (.string y) (hc6 0 _ rfl) Tryz.underlying9 ?_
 refine wT [4, 5] ?_
 refine wYh 6 _ [_] [.int .i64 n, .string y, .slice pd nd cd] HM3 0 fun W8 HM9 => ?_
 refine wZ (wp_seq ?_)
 have Cbx := Mem.cell HM9.out 0 rfl
 refine wQ ?_
 clear Cbx
 refine wp_ret ?_
 refine bodyPost_ret (results_tmp2 rfl _ _ _) rfl ?_
 exact does_ret (Mem.only (M := [_, _]) HM9.out [0, 0] rfl) rfl rfl
set_option maxHeartbeats 4000000 in
set_option maxRecDepth 100000 in
theorem tahead_n (c : Nat) (n : Int) (k : ByteArray) (pd : Option Addr) (nd cd : Nat) (K : At) (pk : Option Addr) (ck : Nat) (ks : List ByteArray) (hK : Reads elemS K (.slice pk ks.length ck) ks) (hs : ks.Pairwise ltK) (hl : ks.length ≤ 3000) (hy : ks[pastN ks k]? = none) : Does Tryz.prog 127 #[.pointer (some ⟨c, 0, none⟩), .slice pk ks.length ck] [boxT c (.cells #[.int .i64 n, .string k, .slice pd nd cd] 148 (0, 0)), K] (.tuple #[.string ⟨#[]⟩, .bool false]) [boxT c (.cells #[.int .i64 n, .string k, .slice pd nd cd] 148 (0, 0)), K] := by
 intro w H hp
 have HM0 := Lib.hid (mem_refl hp)
 clear hp
 obtain ⟨m, hm'⟩ : ∃ m, pastN ks k = m := ⟨_, rfl⟩
 rw [hm'] at hy
 have hlt := List.getElem?_eq_none_iff.1 hy
 have g0 : Hid (ks.length - m = 0) := Lib.hid (by omega)
 clear hy
 have hm := Lib.hid hm'
 clear hm'
 go_enter Tryz.func127, Tryz.ntmps127
 refine wp_seq (wQ ?_)
 refine wp_seq (wN [(0, 1), (1, 1), (2, 3), (3, 1)] (wT [0, 1] ?_))
 refine wD2 2 [] [_, _] Tryz.call132 (ahead_d c n k pd nd cd K pk ck ks hK hs hl) HM0 [0, 0] fun W2 hm1 => ?_
 unfold tlV
 rw [hm.out]
 have HM3 := Lib.hid hm1
 clear hm1
 refine wT [3] ?_
 refine wZ (wp_seq (wp_seq (wQ ?_)))
 refine wp_cond_true rfl (wp_seq (wQ ?_))
 refine wp_ret (then_ret ?_)
 refine bodyPost_ret (results_tmp2 rfl _ _ _) rfl ?_
 exact does_ret (Mem.only (M := [_, _]) HM3.out [0, 0] rfl) rfl rfl
set_option maxHeartbeats 4000000 in
set_option maxRecDepth 100000 in
theorem tdue_d (c : Nat) (q : Int) (k : ByteArray) (D0 : List ByteArray) (hsd' : D0.Pairwise ltK) (hld : D0.length ≤ 2000) (K : At) (pk : Option Addr) (ck : Nat) (ks : List ByteArray) (hK : Reads elemS K (.slice pk ks.length ck) ks) (hs : ks.Pairwise ltK) (hl : ks.length ≤ 3000) : Does Tryz.prog 126 #[.pointer (some ⟨c, 0, none⟩), .slice pk ks.length ck] [hdT c q k D0, K] (popV (popD ks D0).1) [hdT c q k (popD ks D0).2, K] := by
 intro w H hp
 have HM0 := Lib.hid (mem_refl hp)
 clear hp
 have hsd := Lib.hid hsd'
 clear hsd'
 go_enter Tryz.func126, Tryz.ntmps126
 refine wp_seq (wQ ?_)
 refine wp_seq (wp_block ?_)
 refine wp_loop_F [4, 5, 6, 7, 8, 9, 10, 11, 12, 13, 14, 15, 16, 17, 18, 19, 20, 21, 22] (fun n vs W' => ∃ D : List ByteArray, n = D.length ∧ popD ks D = popD ks D0 ∧ D.Pairwise ltK ∧ D.length ≤ 2000 ∧ Mem [hdT c q k D, K] H w W') (n0 := D0.length) ?_ ?_
 ·exact ⟨D0, rfl, rfl, hsd.out, hld, (Mem.only (M := [_, _]) HM0.out [0, 0] rfl)⟩
 rintro n vs W' ⟨D, rfl, hpo, hsD, hlD, hm⟩
 simp only [putAll, List.map_cons, List.map_nil, Act.put, List.setIfInBounds_toArray, List.set_cons_succ, List.set_cons_zero]
 replace hpo := Lib.hid hpo
 replace hsD := Lib.hid hsD
 have HM1 := Lib.hid hm
 clear hm
 refine wp_seq (wp_seq ?_)
 rcases D with _ | ⟨y, D⟩
 ·skip
  have HO2 := Mem.only (M := [_, _]) HM1.out [0, 0] rfl
  obtain ⟨xs, hhxs', hpxs', HO2q⟩ := Mem.hd HO2
  clear HO2
  obtain ⟨p, m, HO2r⟩ := Mem.due HO2q
  clear HO2q
  have hhxs := Lib.hid hhxs'
  clear hhxs'
  have hpxs := Lib.hid hpxs'
  clear hpxs'
  have HM3 := Lib.hid HO2r
  clear HO2r
  have g1 : decide ((0 : Int) < ((xs.length : Nat) : Int)) = false := decide_eq_false (by have := perm_nil hpxs.out; omega)
  have g2 : decide (0 < xs.length) = false := decide_eq_false (by have := perm_nil hpxs.out; omega)
  have Cbx := Mem.cell HM3.out 0 rfl
  refine wQ ?_
  clear Cbx
  refine wp_cond_false rfl (wp_exit ?_)
  refine then_exit (then_exit (block_exit ?_))
  refine then_normal (wp_seq (wQ ?_))
  refine wp_ret ?_
  refine bodyPost_ret (results_tmp2 rfl _ _ _) rfl ?_
  rw [← hpo.out]
  exact does_ret (Mem.toHd hhxs.out hpxs.out (Mem.toDue (xs := xs) rfl (Mem.only (M := [_, _, _]) HM3.out [0, 0, 0] rfl))) rfl rfl
 ·have hlD' : D.length + 1 ≤ 2000 := hlD
  clear hlD
  have HO4 := Mem.only (M := [_, _]) HM1.out [0, 0] rfl
  obtain ⟨xs, hhxs', hpxs', HO4q⟩ := Mem.hd HO4
  clear HO4
  obtain ⟨p, m, HO4r⟩ := Mem.due HO4q
  clear HO4q
  have hhxs := Lib.hid hhxs'
  clear hhxs'
  have hpxs := Lib.hid hpxs'
  clear hpxs'
  have HM5 := Lib.hid HO4r
  clear HO4r
  have hxl : xs.length = D.length + 1 := hpxs.out.length_eq
  have g1 : decide ((0 : Int) < ((xs.length : Nat) : Int)) = true := decide_eq_true (by omega)
  have g2 : decide (0 < xs.length) = true := decide_eq_true (by omega)
  have Cbx := Mem.cell HM5.out 0 rfl
  refine wQ ?_
  clear Cbx
  refine wp_cond_true rfl (wp_skip (then_normal (wp_block (wp_seq ?_))))
  have HS6 := Mem.toHd hhxs.out hpxs.out (Mem.toDue (xs := xs) rfl (Mem.only (M := [_, _, _]) HM5.out [0, 0, 0] rfl))
  have HM7 := Lib.hid HS6
  clear HS6
  refine wN [(0, 1), (1, 1), (2, 1), (3, 1), (4, 3), (5, 3), (6, 1)] (wT [0, 1, 2, 3] ?_)
  refine wD1h 4 [_] [_, _] Tryz.call117 (hpop_d c q k D y (by omega) hsD.out) HM7 [0] fun W9 HM10 => ?_
  refine wpS_still (i := 5) (d := some 18) (v := .string y) rfl (by rfl) (run_asK rfl rfl) rfl ?_
  simp only [Act.put, List.setIfInBounds_toArray, List.set_cons_succ, List.set_cons_zero]
  refine wT [6] ?_
  refine wZ (wp_seq ?_)
  obtain ⟨z, hb'⟩ := bool_letter (hasL ks y)
  have hsD2 : Hid (D.Pairwise ltK) := Lib.hid (List.pairwise_cons.1 hsD.out).2
  cases z
  ·have hpn : Hid (popD ks D = popD ks (y :: D)) := Lib.hid (if_neg (by rw [hb']; exact Bool.false_ne_true)).symm
   have hb := Lib.hid hb'
   clear hb'
   refine wN [(0, 1), (1, 1), (2, 3)] (wT [0, 1] ?_)
   refine wD2 2 [_] [_, _] Tryz.call131 (khas_d K _ ks (fun W H h => (hK W H h).1) hs hl y) HM10 [1] fun W12 hm11 => ?_
   rw [hb.out]
   have HM13 := Lib.hid hm11
   clear hm11
   refine wZ (wp_cond_false rfl (wp_skip (block_normal (then_normal ?_))))
   refine ⟨by kernel_rfl, ?_⟩
   exact ⟨D.length, Nat.lt_succ_self _, D, rfl, by rw [← hpo.out]; exact hpn.out, hsD2.out, by omega, (Mem.only (M := [_, _]) HM13.out [1, 0] rfl)⟩
  ·have hpn : Hid (popD ks (y :: D) = (some y, D)) := Lib.hid (if_pos hb')
   have hb := Lib.hid hb'
   clear hb'
   refine wN [(0, 1), (1, 1), (2, 3)] (wT [0, 1] ?_)
   refine wD2 2 [_] [_, _] Tryz.call131 (khas_d K _ ks (fun W H h => (hK W H h).1) hs hl y) HM10 [1] fun W15 hm14 => ?_
   rw [hb.out]
   have HM16 := Lib.hid hm14
   clear hm14
   refine wZ (wp_cond_true rfl (wp_seq (wQ ?_)))
   refine wp_ret ?_
   refine block_ret (then_ret (block_ret (then_ret ?_)))
   refine bodyPost_ret (results_tmp2 rfl _ _ _) rfl ?_
   rw [← hpo.out, hpn.out]
   exact does_ret (Mem.only (M := [_, _]) HM16.out [1, 0] rfl) rfl rfl
end Go.Proofs.YtcchkkdbagpgjaaGreat
