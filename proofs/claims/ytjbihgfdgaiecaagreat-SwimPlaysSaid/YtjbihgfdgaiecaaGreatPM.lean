/- The reference's detector as objects side by side: what each call owes. -/
import Derived.Test.YtjbihgfdgaiecaaGreatPH
import Derived.Test.YtjbihgfdgaiecaaGreatPL
import Derived.Test.YtjbihgfdgaiecaaGreatPF
import Derived.Test.YtjbihgfdgaiecaaGreatPJ
import Derived.Test.YtjbihgfdgaiecaaGreatPE
namespace Go.Proofs.YtjbihgfdgaiecaaGreat
open Go Go.RowKit
def rvT (b : Nat) (V : Vw) : At := ⟨ViewRA b V, viewRA_owns b V⟩
def rqT (b : Nat) (L : List Td) : At := ⟨QueRA b L, queRA_owns b L⟩
def roT (b : Nat) (self : Int) (O : List Int) : At := ⟨OrdRA b self O, ordRA_owns b self O⟩
def rcT (b : Nat) (L : List Mo) : At := ⟨ClkRA b L, clkRA_owns b L⟩
abbrev rdB (s : DS) (pv pq po pc : Nat) : Obj := .cells #[.int .i64 s.self, .int .i64 s.inc, .int .i64 s.now, .int .i64 s.seq, .int .i64 s.asked, .bool s.over, .bool s.left, .pointer (some ⟨pv, 0, none⟩), .pointer (some ⟨pq, 0, none⟩), .pointer (some ⟨po, 0, none⟩), .pointer (some ⟨pc, 0, none⟩)] 63 (0, 0)
abbrev rdbT (d : Nat) (s : DS) (pv pq po pc : Nat) : At := boxT d (rdB s pv pq po pc)
abbrev RL (d : Nat) (s : DS) (pv pq po pc : Nat) : List At := [rdbT d s pv pq po pc, rvT pv s.V, rqT pq s.Q, roT po s.self s.O, rcT pc s.C]
def rdT (d : Nat) (s : DS) : At := ⟨RDet d s, rdet_owns d s⟩
section
variable {d : Nat} {s : DS} {pv pq po pc : Nat} {L : List At} {H0 : Nat → Prop} {w W : World}
theorem rd_in (hok : DsOk s) {H : Nat → Prop} (h : stars (RL d s pv pq po pc) W H) : RDet d s W H :=
 ⟨hok, pv, pq, po, pc, star_mono (fun _ h => h) (fun _ h => star_mono (fun _ h => h) (fun _ h => star_mono (fun _ h => h) (fun _ h => star_mono (fun _ h => h) (fun _ h => emp_right h) h) h) h) h⟩
theorem rd_out {H : Nat → Prop} (h : RP d s pv pq po pc W H) : stars (RL d s pv pq po pc) W H :=
 star_mono (fun _ h => h) (fun _ h => star_mono (fun _ h => h) (fun _ h => star_mono (fun _ h => h) (fun _ h => star_mono (fun _ h => h) (fun _ h => star_comm (starl_emp h)) h) h) h) h
theorem rd_open (h : Mem (rdT d s :: L) H0 w W) : DsOk s ∧ ∃ pv pq po pc, Mem (RL d s pv pq po pc ++ L) H0 w W := by
 obtain ⟨H', ⟨H1, H2, ⟨hok, pv, pq, po, pc, h1⟩, h2, ha, he⟩, hf, hg⟩ := h
 exact ⟨hok, pv, pq, po, pc, H', stars_append ⟨H1, H2, rd_out h1, h2, ha, he⟩, hf, hg⟩
theorem rd_close (hok : DsOk s) (h : Mem (RL d s pv pq po pc ++ L) H0 w W) : Mem (rdT d s :: L) H0 w W :=
 SEnd.mono h fun _ h => star_mono (fun _ h => rd_in hok h) (fun _ h => h) (stars_split h)
end
theorem rhear_d (d : Nat) (s : DS) (pv pq po pc : Nat) (n i h : Int) (hok : DsOk s) : Does Tryz.prog 40 #[.pointer (some ⟨d, 0, none⟩), cl3 n i h] (RL d s pv pq po pc) (.int .i64 (hearD s ⟨n, i, h⟩).2) [rdT d (hearD s ⟨n, i, h⟩).1] := fun W H hs =>
 Does.of_trip (A := rdT d s) (B := rdT d (hearD s ⟨n, i, h⟩).1) (hearRD_any d s ⟨n, i, h⟩) W H (star_comm (starl_emp (rd_in hok hs)))
theorem rsend_d (d : Nat) (s : DS) (pv pq po pc : Nat) (v : Value) (ms : List MM) (hms : ms.length ≤ 1000) (hok : DsOk s) (kind dst seq fo ab : Int) : DoesU Tryz.prog 49 #[.pointer (some ⟨d, 0, none⟩), v, (.agg (RawM.enc ⟨kind, 0, dst, seq, fo, ab, none, 0, 0⟩).toArray)] (msgsT v ms :: RL d s pv pq po pc) (fun u => [rdT d (sendD s kind dst seq fo ab).1, msgsT u (ms ++ [(sendD s kind dst seq fo ab).2])]) := fun W H hs => by
 have h1 : star (MsgsA v ms emp) (RDet d s) W H := star_mono (fun _ h => h) (fun _ h => rd_in hok h) hs
 refine (sendMs_any d s v ms kind dst seq fo ab hms W H (msgsA_in h1)).mono fun e W' ⟨u, he, hr⟩ => ⟨u, he, hr.mono fun _ h => ?_⟩
 exact star_mono (fun _ h => h) (fun _ h => star_comm (starl_emp h)) (star_comm (msgsA_out h))
theorem rof_d (pv : Nat) (V : Vw) (n : Int) : Does Tryz.prog 24 #[.pointer (some ⟨pv, 0, none⟩), .int .i64 n] [rvT pv V] (cl3 (ofV V n).n (ofV V n).i (ofV V n).h) [rvT pv V] := Does.of_gives fun W H hs => (ofRV_any pv V n W H (emp_right hs))
theorem rall_d (pv : Nat) (V : Vw) : DoesU Tryz.prog 22 #[.pointer (some ⟨pv, 0, none⟩)] [rvT pv V] (fun u => [rowT elemCl u (saidV V), rvT pv V]) := fun W H hs => (allRV_any pv V W H (emp_right hs)).mono fun e W' ⟨v, he, hm⟩ => ⟨v, he, SEnd.fresh (HQ := fun k => v.ownBlock = some k) (stars_owns [rvT pv V]) (rowT elemCl v (saidV V)).owns (sEnd_refl hs) hm.2 ⟨row_zeroE hm.1, fun _ => .rfl⟩ fun k hk => (hm.1.lt k hk).1⟩
theorem rdue_d (pc : Nat) (L : List Mo) (now : Int) : DoesU Tryz.prog 53 #[.pointer (some ⟨pc, 0, none⟩), .int .i64 now] [rcT pc L] fun u => [rowT elemI u ((dueM L now).map Mo.n), rcT pc (restM L now)] := DoesU.of_trip (A := rcT pc L) (clkR_due pc L now) fun u W H h => star_mono (fun _ h => h) (fun _ h => star_comm (starl_emp h)) h
theorem rset_d (pc : Nat) (L : List Mo) (n t : Int) (hok : okM ⟨n, t⟩ = true) : Does Tryz.prog 57 #[.pointer (some ⟨pc, 0, none⟩), .int .i64 n, .int .i64 t] [rcT pc L] (.bool true) [rcT pc (setM L ⟨n, t⟩)] := by
 have h := Does.of_trip (A := rcT pc L) (B := rcT pc (aftSet L ⟨n, t⟩)) (clkR_set pc L n t)
 rw [hok] at h
 have e : aftSet L ⟨n, t⟩ = setM L ⟨n, t⟩ := by unfold aftSet; rw [if_pos hok]
 rw [e] at h
 exact h
theorem rpeers_d (R : At) (v : Value) (l : List Int) (self : Int) (hR : ∀ W H, R.p W H → RowAt elemI W v l) (hl : l.length ≤ 1000) : DoesU Tryz.prog 54 #[v, .int .i64 self] [R] fun u => [rowT elemI u (peersOf l self), R] := fun W H hs =>
 (refPeers_any v l self W (ints_rowAt (hR W H (emp_right hs))) (by omega)).mono fun _ _ ⟨u, he, hm⟩ => ⟨u, he, SEnd.madeI (stars_owns [R]) (sEnd_refl hs) hm⟩
theorem rsome_d (R : At) (v : Value) (l : List Int) (k draw : Int) (hR : Reads elemI R v l) (hl : l.length ≤ 1000) (h0 : 0 ≤ draw) (h1 : draw < 18446744073709551616) : DoesU Tryz.prog 55 #[v, .int .i64 k, .int .u64 draw] [R] fun u => [rowT elemI u (some' l k draw), R] := fun W H hs =>
 (refSome_any v l k draw W (srcI_of (hR W H (emp_right hs))) (by omega) h0 h1).mono fun _ _ ⟨u, he, hm⟩ => ⟨u, he, SEnd.madeI (stars_owns [R]) (sEnd_refl hs) hm⟩
theorem rnext_d (m : Nat) (self : Int) (O peers : List Int) (draw : Int) (R : At) (v : Value) (hR : ∀ W H, R.p W H → RowAt elemI W v peers) (hl : peers.length ≤ 1000) (h0 : 0 ≤ draw) (h1 : draw < 18446744073709551616) : Does Tryz.prog 56 #[.pointer (some ⟨m, 0, none⟩), v, .int .u64 draw] [R, roT m self O] (.int .i64 (nextOf self O peers draw).1) [R, roT m self (nextOf self O peers draw).2] := fun W H hs => by
 have hs2 : star (OrdRA m self O) R.p W H := star_comm (star_mono (fun _ h => h) (fun _ h => emp_right h) hs)
 refine (ordR_nextR R.p R.owns m self O peers draw v hR (by omega) h0 h1 W H hs2).mono fun e W' ⟨u, he, hr⟩ => ?_
 obtain ⟨hu, hr2⟩ := SEnd.pure hr
 subst hu
 exact ⟨he, hr2.mono fun _ h => star_mono (fun _ h => h) (fun _ h => star_comm (starl_emp h)) (star_comm h)⟩
end Go.Proofs.YtjbihgfdgaiecaaGreat

/- The reference's Tick. -/
namespace Go.Proofs.YtjbihgfdgaiecaaGreat
open Go Go.RowKit Go.BigFrame
theorem rsend_len : ∀ (l : List Int) (y : DS × List MM), (l.foldl (fun y p => ((sendD y.1 3 p y.1.seq 0 y.1.asked).1, y.2 ++ [(sendD y.1 3 p y.1.seq 0 y.1.asked).2])) y).2.length = y.2.length + l.length
 | [], y => by simp
 | p :: l, y => by
  rw [List.foldl_cons, rsend_len l]
  simp
  omega
theorem dueR_len (peers : List Int) (draw : Int) (x : DS × List MM) (id : Int) : (dueD peers draw x id).2.length ≤ x.2.length + (if id = 1 then 2 else 0) := by
 by_cases h1 : id = 1
 ·subst h1
  rw [if_pos rfl]
  unfold dueD
  rw [if_neg (by omega), if_pos rfl, rsend_len]
  unfold some'
  rw [List.length_take]
  omega
 ·rw [if_neg h1]
  unfold dueD
  split
  ·split <;> exact Nat.le_refl _
  ·split <;> exact Nat.le_refl _
theorem dueR_lenK (peers : List Int) (draw : Int) : ∀ (l : List Int) (x : DS × List MM), (l.foldl (dueD peers draw) x).2.length ≤ x.2.length + 2 * l.count 1
 | [], x => by simp
 | a :: l, x => by
  rw [List.foldl_cons]
  refine Nat.le_trans (dueR_lenK peers draw l _) ?_
  have := dueR_len peers draw x a
  rw [List.count_cons]
  by_cases h : a = 1
  ·subst h
   simp at this ⊢
   omega
  ·have h' : (a == 1) = false := beq_eq_false_iff_ne.2 h
   rw [if_neg h] at this
   simp [h']
   omega
theorem dueR_two {peers : List Int} {draw : Int} {ids : List Int} {s0 : DS} {k : Nat} (hn : ids.Nodup) : (dueK peers draw ids s0 k).2.length ≤ 2 := by
 unfold dueK
 have h1 := dueR_lenK peers draw (ids.take k) (s0, [])
 have h2 : (ids.take k).count 1 ≤ 1 := List.nodup_iff_count.1 (hn.sublist (List.take_sublist _ _)) 1
 simp only [List.length_nil] at h1
 omega
theorem due_nodup {L : List Mo} (h : FineM L) (now : Int) : ((dueM L now).map Mo.n).Nodup := by
 have := (h.due now).once
 unfold List.Nodup
 rw [List.pairwise_map]
 exact this
theorem dueR_high {peers : List Int} {draw : Int} {x : DS × List MM} {id on oi oh : Int} (h : 100 ≤ id) (ho : ofV x.1.V (id - 100) = ⟨on, oi, oh⟩) : dueD peers draw x id = if oh = 2 then ((hearD x.1 ⟨on, oi, 3⟩).1, x.2) else x := by
 unfold dueD
 rw [if_pos h, ho]
theorem dueR_else {peers : List Int} {draw : Int} {x : DS × List MM} {id : Int} (h : ¬ 100 ≤ id) (h1 : id ≠ 1) (h2 : id ≠ 2) : dueD peers draw x id = x := by
 unfold dueD
 rw [if_neg h, if_neg h1, if_neg h2]
theorem dueR_2 {peers : List Int} {draw : Int} {x : DS × List MM} {on oi oh : Int} (ho : ofV x.1.V x.1.asked = ⟨on, oi, oh⟩) : dueD peers draw x 2 = ({ (if oh = 1 then (hearD x.1 ⟨on, oi, 2⟩).1 else x.1) with asked := -1 }, x.2) := by
 unfold dueD
 rw [if_neg (by omega), if_neg (by omega), if_pos rfl, ho]
def rsStep (y : DS × List MM) (p : Int) : DS × List MM := ((sendD y.1 3 p y.1.seq 0 y.1.asked).1, y.2 ++ [(sendD y.1 3 p y.1.seq 0 y.1.asked).2])
def rsK (l : List Int) (x : DS × List MM) (k : Nat) : DS × List MM := (l.take k).foldl rsStep x
theorem rsK_zero (l : List Int) (x : DS × List MM) : rsK l x 0 = x := by simp [rsK]
theorem rsK_succ {l : List Int} {x : DS × List MM} {k : Nat} {p : Int} (h : l[k]? = some p) : rsK l x (k + 1) = rsStep (rsK l x k) p := by
 unfold rsK
 rw [List.take_add_one, h, Option.toList_some, List.foldl_append]
 rfl
theorem rsK_len (l : List Int) (x : DS × List MM) (k : Nat) : (rsK l x k).2.length ≤ x.2.length + l.length := by
 unfold rsK
 have := rsend_len (l.take k) x
 have e : ((l.take k).foldl rsStep x).2.length = x.2.length + (l.take k).length := this
 rw [e, List.length_take]
 omega
theorem dueR_1 {peers : List Int} {draw : Int} {x : DS × List MM} {HL : List Int} (h : some' ((peersOf peers x.1.self).filter fun p => !(p == x.1.asked)) 2 draw = HL) {k : Nat} (hk : HL.length ≤ k) : dueD peers draw x 1 = rsK HL x k := by
 unfold dueD rsK
 rw [if_neg (by omega), if_pos rfl, h, List.take_of_length_le hk]
 rfl
theorem idr_cases (id : Int) : (decide ((100 : Int) ≤ id) = true ∧ 100 ≤ id) ∨ id = 1 ∨ id = 2 ∨ (decide ((100 : Int) ≤ id) = false ∧ (id == 1) = false ∧ (id == 2) = false ∧ ¬ 100 ≤ id ∧ id ≠ 1 ∧ id ≠ 2) := by
 by_cases h : 100 ≤ id
 ·exact .inl ⟨decide_eq_true h, h⟩
 ·by_cases h1 : id = 1
  ·exact .inr (.inl h1)
  ·by_cases h2 : id = 2
   ·exact .inr (.inr (.inl h2))
   ·exact .inr (.inr (.inr ⟨decide_eq_false h, beq_eq_false_iff_ne.2 h1, beq_eq_false_iff_ne.2 h2, h, h1, h2⟩))
theorem filt_succ {PL : List Int} {a p : Int} {j : Nat} (h : PL[j]? = some p) : (PL.take (j + 1)).filter (fun p => !(p == a)) = (PL.take j).filter (fun p => !(p == a)) ++ (if (p != a) = true then [p] else []) := by
 rw [List.take_add_one, h, Option.toList_some, List.filter_append]
 congr 1
 by_cases e : p = a
 ·subst e; simp
 ·have : (p == a) = false := beq_eq_false_iff_ne.2 e
  simp [this, bne]
theorem rof_at {pv : Nat} {V : Vw} {n on oi oh : Int} {L : List At} {H : Nat → Prop} {w W : World} (h : Mem L H w W) (k : Nat) (hk : L[k]? = some (rvT pv V)) (ho : ofV V n = ⟨on, oi, oh⟩) : Gives Tryz.prog 24 #[.pointer (some ⟨pv, 0, none⟩), .int .i64 n] W (.agg #[.int .i64 on, .int .i64 oi, .int .i64 oh]) := by
 have hg : ∀ H, (rvT pv V).p W H → Gives Tryz.prog 24 #[.pointer (some ⟨pv, 0, none⟩), .int .i64 n] W (ofV V n).val := fun H hv => ofRV_any pv V n W H hv
 have := h.have k hk hg
 rw [ho] at this
 exact this
set_option maxHeartbeats 4000000 in
set_option maxRecDepth 100000 in
theorem rtick_work (d : Nat) (s : DS) (vp : Value) (draw : Int) (R : At) (peers : List Int) (hR : ∀ W H, R.p W H → RowAt elemI W vp peers) (hpl : peers.length ≤ 1000) (hnow : s.now < 100000) (h0 : 0 ≤ draw) (h1 : draw < 18446744073709551616) (hl : s.left = false) : DoesU Tryz.prog 16 #[.pointer (some ⟨d, 0, none⟩), vp, .int .u64 draw] [rdT d s, R] (fun u => [msgsT u (tickD s peers draw).2, R, rdT d (tickD s peers draw).1]) := by
 intro w H hp
 have HM0 := Lib.hid (mem_refl hp)
 clear hp
 replace HM0 := rd_open HM0.out
 obtain ⟨hok0, pv, pq, po, pc, hm0⟩ := HM0
 have HM0 := Lib.hid hm0
 clear hm0
 have hfin := HM0.out.have 4 rfl fun _ h => h.1
 obtain ⟨ids, hids'⟩ : ∃ l, (dueM s.C (s.now + 1)).map Mo.n = l := ⟨_, rfl⟩
 have hidsl : ids.length ≤ 1000 := by rw [← hids', List.length_map]; exact (hfin.due _).len
 have hidsr : Hid (∀ x ∈ ids, 0 ≤ x ∧ x ≤ 999) := Lib.hid (by rw [← hids']; exact fun x hx => due_in hfin _ hx)
 have hnd : Hid ids.Nodup := Lib.hid (by rw [← hids']; exact due_nodup hfin _)
 have hids := Lib.hid hids'
 clear hids' hfin
 have hn := hok0.now
 have hle := hn.1
 go_enter Tryz.func16, Tryz.ntmps16
 refine wp_seq ?_
 refine wp_region_N [(0, 1)] (by kernel_rfl) ?_
 refine wS1 [0] ?_
 repeat (go_big_quiet_step (fail))
 refine wpQuiet_nil ?_
 refine wpS_nil ?_
 refine then_normal ?_
 refine wp_seq ?_
 refine wp_region_N [(0, 1), (1, 1), (2, 1), (3, 1), (4, 1), (5, 1), (6, 1), (7, 3)] (by kernel_rfl) ?_
 have Crd := Mem.cell HM0.out 0 rfl
 refine wS1 [0, 1, 2, 3, 4, 5, 6] ?_
 repeat (go_big_quiet_step (fail))
 refine wpQuiet_nil ?_
 clear Crd
 refine wpS_store1 (i := 7) (v := .int _ _) (L2 := [_, _, _, _, _]) (cs' := [_, _, _, _, _, _, _, _, _, _, _]) rfl (by rfl) rfl rfl rfl rfl (by kernel_rfl) rfl HM0.out 0 rfl rfl rfl rfl covS_nil rfl ?_
 rintro W2 hm1 -
 have HM3 := Lib.hid hm1
 clear hm1
 refine wpS_nil ?_
 refine then_normal ?_
 refine wp_seq ?_
 refine wp_seq ?_
 refine wp_region_N [(0, 1), (1, 1), (2, 1), (3, 1)] (by kernel_rfl) ?_
 have Crd := Mem.cell HM3.out 0 rfl
 refine wS1 [0, 1, 2, 3] ?_
 repeat (go_big_quiet_step (fail))
 refine wpQuiet_nil ?_
 clear Crd
 refine wpS_nil ?_
 refine then_normal ?_
 refine wp_cond_false rfl ?_
 refine wp_skip ?_
 refine then_normal ?_
 refine wp_seq ?_
 refine wp_region_N [(0, 1)] (by kernel_rfl) ?_
 refine wS1 [0] ?_
 repeat (go_big_quiet_step (fail))
 refine wpQuiet_nil ?_
 refine wpS_nil ?_
 refine then_normal ?_
 refine wp_seq ?_
 refine wp_seq ?_
 have hmt := msgs_nil HM3.out
 have HM4 := Lib.hid hmt
 clear hmt
 refine wp_region_M (fun k => k ∈ ([] : List Nat)) [(0, 1), (1, 1), (2, 1), (3, 1), (4, 1), (5, 1), (6, 1), (7, 1), (10, 0), (8, 3), (9, 1)] (by kernel_rfl) (by kernel_rfl) HM4.out ?_
 intro W5 hm6
 have HM7 := Lib.hid hm6
 clear hm6
 have Crd := Mem.cell HM7.out 1 rfl
 refine wS1 [0, 1, 2, 3, 4, 5, 6, 7] ?_
 repeat (go_big_quiet_step (fail))
 refine wpQuiet_nil ?_
 clear Crd
 refine wS0 [10] ?_
 repeat (go_big_quiet_step (fail))
 refine wpQuiet_nil ?_
 refine wpS_doesU2 (i := 8) (d := some 36) (rem := [_, _, _, _, _, _]) rfl (by rfl) rfl Tryz.call53 (by have := rdue_d pc s.C (s.now + 1); rw [hids.out] at this; exact this) rfl rfl HM7.out [5] rfl covS_nil (fun _ => rfl) rfl ?_
 rintro u10 W9 hm8 -
 obtain ⟨dp, dc, rfl⟩ := row_form (Mem.src hm8 0 rfl rowT_reads)
 have HM11 := Lib.hid hm8
 clear hm8
 simp only [Act.put, pA, pB, pC]
 refine wS1 [9] ?_
 repeat (go_big_quiet_step (fail))
 refine wpQuiet_nil ?_
 refine wpS_nil ?_
 refine then_normal ?_
 refine wp_block ?_
 refine wp_loop_F [7, 9, 10, 11, 13, 15, 16, 38, 39, 40, 41, 42, 43, 44, 45, 46, 47, 48, 49, 50, 51, 52, 53, 54, 55, 56, 57, 58, 59, 60, 61, 62, 63, 64, 65, 66, 67, 68, 69, 70, 71, 72, 73, 74, 75, 76, 77, 78, 79, 80, 81, 82, 83, 84, 85, 86, 87, 88, 89, 90, 91, 92, 93, 94, 95, 96, 97, 98, 99, 100, 101, 102, 103, 104, 105, 106, 107, 108, 109, 110, 111, 112, 113, 114, 115, 116, 117, 118, 119, 120, 121, 122, 123, 124, 125, 126, 127, 128] (fun n vz W' => ∃ (k : Nat) (vs' : Value), n = ids.length - k ∧ vz 38 = .int .i64 (k : Int) ∧ vz 7 = vs' ∧ k ≤ ids.length ∧ Mem [rdT d (dueK peers draw ids { s with now := s.now + 1, C := restM s.C (s.now + 1) } k).1, rowT elemI (.slice dp ids.length dc) ids, msgsT vs' (dueK peers draw ids { s with now := s.now + 1, C := restM s.C (s.now + 1) } k).2, R] H w W') (n0 := ids.length) ?_ ?_
 ·refine ⟨0, .slice none 0 0, rfl, rfl, rfl, Nat.zero_le _, ?_⟩
  rw [dueK_zero]
  exact (rd_close (s := { s with now := s.now + 1, C := restM s.C (s.now + 1) }) ⟨hok0.self, hok0.inc, by dsimp only; omega, hok0.seq, hok0.asked⟩ (Mem.only (M := [_, _, _, _, _, _, _, _]) HM11.out [3, 3, 3, 3, 1, 0, 0, 0] rfl))
 rintro n vz W' ⟨k, vs', rfl, e38, e7, hk, hm⟩
 simp only [putAll, List.map_cons, List.map_nil, Act.put, List.setIfInBounds_toArray, List.set_cons_succ, List.set_cons_zero]
 rw [e38, e7]
 clear e38 e7
 have hlen0 := dueR_two (peers := peers) (draw := draw) (s0 := { s with now := s.now + 1, C := restM s.C (s.now + 1) }) (k := k) hnd.out
 obtain ⟨x, hx'⟩ : ∃ x, (dueK peers draw ids { s with now := s.now + 1, C := restM s.C (s.now + 1) } k) = x := ⟨_, rfl⟩
 rw [hx'] at hlen0 hm
 have hx := Lib.hid hx'
 have hxn := Lib.hid hlen0
 clear hx' hlen0
 replace hm := rd_open hm
 obtain ⟨hok, pv, pq, po, pc, hm⟩ := hm
 have HM12 := Lib.hid hm
 clear hm
 refine wp_seq ?_
 refine wp_region_N [(0, 1)] (by kernel_rfl) ?_
 refine wS1 [0] ?_
 repeat (go_big_quiet_step (fail))
 refine wpQuiet_nil ?_
 refine wpS_nil ?_
 refine then_normal ?_
 refine wp_seq ?_
 refine wp_cond_split rfl (fun h13 => ?_) (fun h13 => ?_)
 ·have hk1 : k + 1 ≤ ids.length := by have : (k : Int) < (ids.length : Int) := (by simpa using h13); omega
  clear h13
  obtain ⟨id, hy⟩ : ∃ y, ids[k]? = some y := ⟨_, List.getElem?_eq_getElem hk1⟩
  have hid := Lib.hid (hidsr.out id (List.mem_of_getElem? hy))
  refine wp_skip ?_
  refine then_normal ?_
  refine wp_seq ?_
  refine wp_block ?_
  refine wp_seq ?_
  refine wp_region_N [(0, 1), (1, 1), (2, 1)] (by kernel_rfl) ?_
  refine wpS_index (E := elemI) (i := 0) (d := some 40) rfl (by rfl) rfl rfl rfl (rowAt_src (HM12.out.src 5 rfl rowT_reads)) (hy) rfl ?_
  intro eb14 eo15 hc16
  simp only [Act.put, pA, pB, pC]
  refine wpS_load1 (i := 1) (d := some 41) (u := .int .i64 id) rfl (by rfl) rfl rfl (hc16 0 _ rfl) Tryz.underlying3 rfl rfl ?_
  simp only [Act.put, pA, pB, pC]
  refine wS1 [2] ?_
  repeat (go_big_quiet_step (fail))
  refine wpQuiet_nil ?_
  refine wpS_nil ?_
  refine then_normal ?_
  refine wp_block ?_
  refine wp_seq ?_
  rcases idr_cases id with ⟨g1, e1⟩ | rfl | rfl | ⟨g1, g2, g3, e1, e2, e3⟩
  ·obtain ⟨⟨on, oi, oh⟩, ho'⟩ : ∃ c, ofV x.1.V (id - 100) = c := ⟨_, rfl⟩
   have HS := Lib.hid (dueR_high (peers := peers) (draw := draw) e1 ho')
   have ho := Lib.hid ho'
   clear ho' e1
   have hid0 := hid.out.1
   have hid1 := hid.out.2
   refine wp_region_N [(0, 1), (1, 1), (2, 1)] (by kernel_rfl) ?_
   refine wS1 [0, 1, 2] ?_
   repeat (go_big_quiet_step (fail))
   refine wpQuiet_nil ?_
   refine wpS_nil ?_
   refine then_normal ?_
   refine wp_cond_true rfl ?_
   refine wp_seq ?_
   refine wp_region_N [(0, 1), (1, 1), (2, 1), (3, 1), (4, 1), (5, 1), (6, 3), (7, 3), (8, 3)] (by kernel_rfl) ?_
   have Crd := Mem.cell HM12.out 0 rfl
   refine wS1 [0, 1, 2, 3, 4, 5] ?_
   repeat (go_big_quiet_step (fail))
   refine wpQuiet_nil ?_
   clear Crd
   refine wpS_does2 (i := 6) (d := some 51) (rem := [_, _, _, _, _, _, _]) (out := [_, _, _, _, _, _, _, _]) rfl (by rfl) rfl Tryz.call24 (rof_d pv x.1.V (id - 100)) rfl rfl HM12.out [1] rfl covS_nil rfl rfl ?_
   rintro W18 hm17 -
   rw [ho.out]
   simp only [cl3]
   have HM19 := Lib.hid hm17
   clear hm17
   simp only [Act.put, pA, pB, pC]
   refine wpS_alloc (i := 7) (dd := 10) (z := .agg #[.int .i64 0, .int .i64 0, .int .i64 0]) (cs := #[.int .i64 0, .int .i64 0, .int .i64 0]) rfl (by rfl) rfl (by kernel_rfl) rfl HM19.out covS_nil rfl ?_
   rintro b22 W21 hm20 -
   have HM23 := Lib.hid hm20
   clear hm20
   simp only [Act.put, pA, pB, pC]
   refine wpS_storeA (i := 8) (L2 := [_, _, _, _, _, _, _, _]) (cs' := [_, _, _]) rfl (by rfl) rfl rfl rfl (by kernel_rfl) (by rfl) HM23.out 0 rfl rfl rfl rfl covS_nil rfl ?_
   rintro W25 hm24 -
   have HM26 := Lib.hid hm24
   clear hm24
   refine wpS_nil ?_
   refine then_normal ?_
   refine wp_seq ?_
   refine wp_region_N [(0, 1), (1, 1), (2, 1)] (by kernel_rfl) ?_
   have Cb10 := Mem.cell HM26.out 0 rfl
   refine wS1 [0, 1, 2] ?_
   repeat (go_big_quiet_step (fail))
   refine wpQuiet_nil ?_
   clear Cb10
   refine wpS_nil ?_
   refine then_normal ?_
   refine wp_cond_split rfl (fun h27 => ?_) (fun h27 => ?_)
   ·have h100 := h27
    simp at h100
    have h10 := Lib.hid h100
    clear h100 h27
    refine wp_seq ?_
    refine wp_region_N [(0, 1), (1, 3)] (by kernel_rfl) ?_
    refine wS1 [0] ?_
    repeat (go_big_quiet_step (fail))
    refine wpQuiet_nil ?_
    refine wpS_store1 (i := 1) (v := .int _ _) (L2 := [_, _, _, _, _, _, _, _]) (cs' := [_, _, _]) rfl (by rfl) rfl rfl rfl rfl (by kernel_rfl) rfl HM26.out 0 rfl rfl rfl rfl covS_nil rfl ?_
    rintro W29 hm28 -
    have HM30 := Lib.hid hm28
    clear hm28
    refine wpS_nil ?_
    refine then_normal ?_
    refine wp_region_N [(0, 1), (1, 1), (2, 3)] (by kernel_rfl) ?_
    have Cb10 := Mem.cell HM30.out 0 rfl
    refine wS1 [0, 1] ?_
    repeat (go_big_quiet_step (fail))
    refine wpQuiet_nil ?_
    clear Cb10
    refine wpS_does2 (i := 2) (d := some 58) (rem := [_, _, _, _]) (out := [_, _, _, _, _]) rfl (by rfl) rfl Tryz.call40 (rhear_d d x.1 pv pq po pc on oi 3 hok) rfl rfl HM30.out [2, 1, 1, 1, 1] rfl covS_nil rfl rfl ?_
    rintro W32 hm31 -
    have HM33 := Lib.hid hm31
    clear hm31
    simp only [Act.put, pA, pB, pC]
    refine wpS_nil ?_
    refine block_normal ?_
    refine block_normal ?_
    refine then_normal ?_
    refine wp_region_N [(0, 1), (1, 1)] (by kernel_rfl) ?_
    refine wS1 [0, 1] ?_
    repeat (go_big_quiet_step (fail))
    refine wpQuiet_nil ?_
    refine wpS_nil ?_
    refine then_normal ?_
    refine ⟨by kernel_rfl, ?_⟩
    have hst := dueK_succ (peers := peers) (draw := draw) (s0 := { s with now := s.now + 1, C := restM s.C (s.now + 1) }) hy
    rw [hx.out, HS.out] at hst
    rw [if_pos h10.out] at hst
    refine ⟨ids.length - (k + 1), by omega, k + 1, vs', rfl, rfl, rfl, hk1, ?_⟩
    rw [hst]
    exact (Mem.only (M := [_, _, _, _]) HM33.out [0, 1, 1, 1] rfl)
   ·have h100 := h27
    simp at h100
    have h10 := Lib.hid h100
    clear h100 h27
    refine wp_skip ?_
    refine block_normal ?_
    refine block_normal ?_
    refine then_normal ?_
    refine wp_region_N [(0, 1), (1, 1)] (by kernel_rfl) ?_
    refine wS1 [0, 1] ?_
    repeat (go_big_quiet_step (fail))
    refine wpQuiet_nil ?_
    refine wpS_nil ?_
    refine then_normal ?_
    refine ⟨by kernel_rfl, ?_⟩
    have hst := dueK_succ (peers := peers) (draw := draw) (s0 := { s with now := s.now + 1, C := restM s.C (s.now + 1) }) hy
    rw [hx.out, HS.out] at hst
    rw [if_neg h10.out] at hst
    refine ⟨ids.length - (k + 1), by omega, k + 1, vs', rfl, rfl, rfl, hk1, ?_⟩
    rw [hst]
    exact (rd_close hok (Mem.only (M := [_, _, _, _, _, _, _, _]) HM26.out [2, 1, 1, 1, 1, 1, 1, 1] rfl))
  ·obtain ⟨HL, hHL'⟩ : ∃ l, some' ((peersOf peers x.1.self).filter fun p => !(p == x.1.asked)) 2 draw = l := ⟨_, rfl⟩
   have hHL2 : HL.length ≤ 2 := by rw [← hHL']; unfold some'; rw [List.length_take]; omega
   have hHL := Lib.hid hHL'
   clear hHL'
   obtain ⟨PL, hPL'⟩ : ∃ l, peersOf peers x.1.self = l := ⟨_, rfl⟩
   have hPLn : PL.length ≤ 8 := by rw [← hPL']; exact peersOf_len _ _
   have hPL := Lib.hid hPL'
   clear hPL'
   refine wp_region_N [(0, 1), (1, 1), (2, 1)] (by kernel_rfl) ?_
   refine wS1 [0, 1, 2] ?_
   repeat (go_big_quiet_step (fail))
   refine wpQuiet_nil ?_
   refine wpS_nil ?_
   refine then_normal ?_
   refine wp_cond_false rfl ?_
   refine wp_seq ?_
   refine wp_region_N [(0, 1), (1, 1), (2, 1)] (by kernel_rfl) ?_
   refine wS1 [0, 1, 2] ?_
   repeat (go_big_quiet_step (fail))
   refine wpQuiet_nil ?_
   refine wpS_nil ?_
   refine then_normal ?_
   refine wp_cond_true rfl ?_
   refine wp_seq ?_
   refine wp_region_N [(0, 1)] (by kernel_rfl) ?_
   refine wS1 [0] ?_
   repeat (go_big_quiet_step (fail))
   refine wpQuiet_nil ?_
   refine wpS_nil ?_
   refine then_normal ?_
   refine wp_seq ?_
   refine wp_seq ?_
   have hmn := Mem.nilRow elemI HM12.out
   have HM34 := Lib.hid hmn
   clear hmn
   refine wp_region_N [(0, 1), (1, 1), (2, 1), (3, 1), (4, 1), (5, 3), (6, 1), (7, 1)] (by kernel_rfl) ?_
   have Crd := Mem.cell HM34.out 1 rfl
   refine wS1 [0, 1, 2, 3, 4] ?_
   repeat (go_big_quiet_step (fail))
   refine wpQuiet_nil ?_
   clear Crd
   refine wpS_doesU2 (i := 5) (d := some 67) (rem := [_, _, _, _, _, _, _, _]) rfl (by rfl) rfl Tryz.call54 (by have := rpeers_d R vp peers x.1.self hR hpl; rw [hPL.out] at this; exact this) rfl rfl HM34.out [8] rfl covS_nil (fun _ => rfl) rfl ?_
   rintro u37 W36 hm35 -
   obtain ⟨pp2, pc2, rfl⟩ := row_form (Mem.src hm35 0 rfl rowT_reads)
   have HM38 := Lib.hid hm35
   clear hm35
   simp only [Act.put, pA, pB, pC]
   refine wS1 [6, 7] ?_
   repeat (go_big_quiet_step (fail))
   refine wpQuiet_nil ?_
   refine wpS_nil ?_
   refine then_normal ?_
   refine wp_block ?_
   refine wp_loop_F [11, 13, 69, 70, 71, 72, 73, 74, 75, 76, 77, 78, 79, 80, 81, 82, 83] (fun n uz W' => ∃ (j : Nat) (vo : Value), n = PL.length - j ∧ uz 69 = .int .i64 (j : Int) ∧ uz 11 = vo ∧ j ≤ PL.length ∧ Mem ([rowT elemI vo ((PL.take j).filter fun p => !(p == x.1.asked)), rowT elemI (.slice pp2 PL.length pc2) PL] ++ RL d x.1 pv pq po pc ++ [rowT elemI (.slice dp ids.length dc) ids, msgsT vs' x.2, R]) H w W') (n0 := PL.length) ?_ ?_
   ·exact ⟨0, _, rfl, rfl, rfl, Nat.zero_le _, (Mem.only (M := [_, _, _, _, _, _, _, _, _, _]) HM38.out [2, 0, 1, 1, 1, 1, 1, 1, 1, 0] rfl)⟩
   rintro n uz W' ⟨j, vo, rfl, e69, e11, hj, hm⟩
   simp only [putAll, List.map_cons, List.map_nil, Act.put, List.setIfInBounds_toArray, List.set_cons_succ, List.set_cons_zero]
   rw [e69, e11]
   clear e69 e11
   have HM39 := Lib.hid hm
   clear hm
   refine wp_seq ?_
   refine wp_region_N [(0, 1)] (by kernel_rfl) ?_
   refine wS1 [0] ?_
   repeat (go_big_quiet_step (fail))
   refine wpQuiet_nil ?_
   refine wpS_nil ?_
   refine then_normal ?_
   refine wp_seq ?_
   refine wp_cond_split rfl (fun h40 => ?_) (fun h40 => ?_)
   ·have hj1 : j + 1 ≤ PL.length := by have : (j : Int) < (PL.length : Int) := (by simpa using h40); omega
    clear h40
    obtain ⟨p, hp⟩ : ∃ y, PL[j]? = some y := ⟨_, List.getElem?_eq_getElem hj1⟩
    refine wp_skip ?_
    refine then_normal ?_
    refine wp_seq ?_
    refine wp_block ?_
    refine wp_seq ?_
    refine wp_region_N [(0, 1), (1, 1), (2, 1)] (by kernel_rfl) ?_
    refine wpS_index (E := elemI) (i := 0) (d := some 71) rfl (by rfl) rfl rfl rfl (rowAt_src (HM39.out.src 1 rfl rowT_reads)) (hp) rfl ?_
    intro eb41 eo42 hc43
    simp only [Act.put, pA, pB, pC]
    refine wpS_load1 (i := 1) (d := some 72) (u := .int .i64 p) rfl (by rfl) rfl rfl (hc43 0 _ rfl) Tryz.underlying3 rfl rfl ?_
    simp only [Act.put, pA, pB, pC]
    refine wS1 [2] ?_
    repeat (go_big_quiet_step (fail))
    refine wpQuiet_nil ?_
    refine wpS_nil ?_
    refine then_normal ?_
    refine wp_seq ?_
    refine wp_region_N [(0, 1), (1, 1), (2, 1), (3, 1), (4, 1), (5, 1)] (by kernel_rfl) ?_
    have Crd := Mem.cell HM39.out 2 rfl
    refine wS1 [0, 1, 2, 3, 4, 5] ?_
    repeat (go_big_quiet_step (fail))
    refine wpQuiet_nil ?_
    clear Crd
    refine wpS_nil ?_
    refine then_normal ?_
    refine wp_cond_split rfl (fun h44 => ?_) (fun h44 => ?_)
    ·have h18 := Lib.hid (show (p != x.1.asked) = true by simpa using h44)
     clear h44
     refine wp_region_N [(0, 1), (1, 1), (2, 3), (3, 3), (4, 1)] (by kernel_rfl) ?_
     refine wS1 [0, 1] ?_
     repeat (go_big_quiet_step (fail))
     refine wpQuiet_nil ?_
     refine wpS_build1 elemI (i := 2) (dd := 81) (y := (p : Int)) rfl (by rfl) rfl rfl rfl (by decide) HM39.out covS_nil rfl ?_
     rintro b47 W48 hm49 -
     have HM50 := Lib.hid hm49
     clear hm49
     simp only [Act.put, pA, pB, pC]
     refine wpS_append (E := elemI) (i := 3) (d := some 82) (L2 := [_, _, _, _, _, _, _, _, _, _]) rfl (by rfl) rfl HM50.out 1 rfl rfl (HM50.out.src 0 rfl rowT_reads) rfl (by have := List.length_filter_le (fun p => !(p == x.1.asked)) (PL.take j); rw [List.length_take] at this; show (_ + 1) * 8 ≤ _; omega) rfl covS_nil rfl ?_
     rintro v53 W54 hm55 -
     obtain ⟨v53p, v53c, rfl⟩ := row_form (Mem.src hm55 0 rfl rowT_reads)
     have HM56 := Lib.hid hm55
     clear hm55
     simp only [Act.put, pA, pB, pC]
     refine wS1 [4] ?_
     repeat (go_big_quiet_step (fail))
     refine wpQuiet_nil ?_
     refine wpS_nil ?_
     refine block_normal ?_
     refine then_normal ?_
     refine wp_region_N [(0, 1), (1, 1)] (by kernel_rfl) ?_
     refine wS1 [0, 1] ?_
     repeat (go_big_quiet_step (fail))
     refine wpQuiet_nil ?_
     refine wpS_nil ?_
     refine then_normal ?_
     refine ⟨by kernel_rfl, ?_⟩
     have hst := filt_succ (a := x.1.asked) hp
     rw [if_pos h18.out] at hst
     refine ⟨PL.length - (j + 1), by omega, j + 1, _, rfl, rfl, rfl, hj1, ?_⟩
     rw [hst]
     exact (Mem.only (M := [_, _, _, _, _, _, _, _, _, _]) HM56.out [0, 1, 1, 1, 1, 1, 1, 1, 1, 1] rfl)
    ·have h18 := Lib.hid (show ¬ (p != x.1.asked) = true by simpa using h44)
     clear h44
     refine wp_skip ?_
     refine block_normal ?_
     refine then_normal ?_
     refine wp_region_N [(0, 1), (1, 1)] (by kernel_rfl) ?_
     refine wS1 [0, 1] ?_
     repeat (go_big_quiet_step (fail))
     refine wpQuiet_nil ?_
     refine wpS_nil ?_
     refine then_normal ?_
     refine ⟨by kernel_rfl, ?_⟩
     have hst := filt_succ (a := x.1.asked) hp
     rw [if_neg h18.out] at hst
     rw [List.append_nil] at hst
     refine ⟨PL.length - (j + 1), by omega, j + 1, _, rfl, rfl, rfl, hj1, ?_⟩
     rw [hst]
     exact (Mem.only (M := [_, _, _, _, _, _, _, _, _, _]) HM39.out [0, 0, 0, 0, 0, 0, 0, 0, 0, 0] rfl)
   ·have hge : Hid (PL.length ≤ j) := Lib.hid (by have : ¬ (j : Int) < (PL.length : Int) := (by simpa using h40); omega)
    clear h40
    refine wp_exit ?_
    refine then_exit (then_exit (block_exit ?_))
    refine then_normal ?_
    refine wp_seq ?_
    have hm21 := HM39.out
    rw [List.take_of_length_le hge.out] at hm21
    have hHL3 : Hid (some' (PL.filter fun p => !(p == x.1.asked)) 2 draw = HL) := Lib.hid (by rw [← hPL.out]; exact hHL.out)
    have HM57 := Lib.hid hm21
    clear hm21
    refine wp_region_N [(0, 1), (1, 1), (2, 3), (3, 1), (4, 1)] (by kernel_rfl) ?_
    refine wS1 [0, 1] ?_
    repeat (go_big_quiet_step (fail))
    refine wpQuiet_nil ?_
    refine wpS_doesU3 (i := 2) (d := some 86) (rem := [_, _, _, _, _, _, _, _, _]) rfl (by rfl) rfl Tryz.call55 (rsome_d _ vo (PL.filter fun p => !(p == x.1.asked)) 2 draw rowT_reads (Nat.le_trans (List.length_filter_le _ _) (by omega)) h0 h1) rfl rfl rfl HM57.out [0] rfl covS_nil (fun _ => rfl) rfl ?_
    rintro u60 W59 hm58 -
    rw [hHL3.out] at hm58
    obtain ⟨sp, sc, rfl⟩ := row_form (Mem.src hm58 0 rfl rowT_reads)
    have HM61 := Lib.hid hm58
    clear hm58
    simp only [Act.put, pA, pB, pC]
    refine wS1 [3, 4] ?_
    repeat (go_big_quiet_step (fail))
    refine wpQuiet_nil ?_
    refine wpS_nil ?_
    refine then_normal ?_
    refine wp_block ?_
    refine wp_loop_F [7, 15, 88, 89, 90, 91, 92, 93, 94, 95, 96, 97, 98, 99, 100, 101, 102, 103, 104, 105] (fun n tz W' => ∃ (j : Nat) (vs2 : Value), n = HL.length - j ∧ tz 88 = .int .i64 (j : Int) ∧ tz 7 = vs2 ∧ j ≤ HL.length ∧ Mem [rdT d (rsK HL x j).1, rowT elemI (.slice sp HL.length sc) HL, rowT elemI (.slice dp ids.length dc) ids, msgsT vs2 (rsK HL x j).2, R] H w W') (n0 := HL.length) ?_ ?_
    ·refine ⟨0, vs', rfl, rfl, rfl, Nat.zero_le _, ?_⟩
     rw [rsK_zero]
     exact (rd_close hok (Mem.only (M := [_, _, _, _, _, _, _, _, _]) HM61.out [3, 3, 3, 3, 3, 0, 2, 2, 2] rfl))
    rintro n tz W' ⟨j, vs2, rfl, e88, e7, hj, hm⟩
    simp only [putAll, List.map_cons, List.map_nil, Act.put, List.setIfInBounds_toArray, List.set_cons_succ, List.set_cons_zero]
    rw [e88, e7]
    clear e88 e7
    have hyl := rsK_len HL x j
    obtain ⟨y, hyy'⟩ : ∃ y, rsK HL x j = y := ⟨_, rfl⟩
    rw [hyy'] at hm hyl
    have hyy := Lib.hid hyy'
    have hyn : Hid (y.2.length ≤ 1000) := Lib.hid (by have := hxn.out; omega)
    clear hyy' hyl
    replace hm := rd_open hm
    obtain ⟨hok, pv, pq, po, pc, hm⟩ := hm
    have HM62 := Lib.hid hm
    clear hm
    refine wp_seq ?_
    refine wp_region_N [(0, 1)] (by kernel_rfl) ?_
    refine wS1 [0] ?_
    repeat (go_big_quiet_step (fail))
    refine wpQuiet_nil ?_
    refine wpS_nil ?_
    refine then_normal ?_
    refine wp_seq ?_
    refine wp_cond_split rfl (fun h63 => ?_) (fun h63 => ?_)
    ·have hj1 : j + 1 ≤ HL.length := by have : (j : Int) < (HL.length : Int) := (by simpa using h63); omega
     clear h63
     obtain ⟨p, hp⟩ : ∃ y, HL[j]? = some y := ⟨_, List.getElem?_eq_getElem hj1⟩
     refine wp_skip ?_
     refine then_normal ?_
     refine wp_seq ?_
     refine wp_block ?_
     refine wp_seq ?_
     refine wp_region_N [(0, 1), (1, 1), (2, 1)] (by kernel_rfl) ?_
     refine wpS_index (E := elemI) (i := 0) (d := some 90) rfl (by rfl) rfl rfl rfl (rowAt_src (HM62.out.src 5 rfl rowT_reads)) (hp) rfl ?_
     intro eb64 eo65 hc66
     simp only [Act.put, pA, pB, pC]
     refine wpS_load1 (i := 1) (d := some 91) (u := .int .i64 p) rfl (by rfl) rfl rfl (hc66 0 _ rfl) Tryz.underlying3 rfl rfl ?_
     simp only [Act.put, pA, pB, pC]
     refine wS1 [2] ?_
     repeat (go_big_quiet_step (fail))
     refine wpQuiet_nil ?_
     refine wpS_nil ?_
     refine then_normal ?_
     refine wp_region_M (fun k => k ∈ ([] : List Nat)) [(0, 1), (1, 1), (2, 1), (3, 1), (4, 1), (5, 1), (6, 1), (7, 1), (8, 1), (9, 1), (10, 1), (11, 1), (12, 3), (13, 1)] (by kernel_rfl) (by kernel_rfl) HM62.out ?_
     intro W67 hm68
     have HM69 := Lib.hid hm68
     clear hm68
     have Crd := Mem.cell HM69.out 0 rfl
     refine wS1 [0, 1, 2, 3, 4, 5, 6, 7, 8, 9, 10] ?_
     repeat (go_big_quiet_step (fail))
     refine wpQuiet_nil ?_
     clear Crd
     refine wpS_read (i := 11) (d := some 103) (v := .agg (RawM.enc ⟨3, 0, p, y.1.seq, 0, y.1.asked, none, 0, 0⟩).toArray) rfl (by rfl) (by kernel_rfl) rfl ?_
     simp only [Act.put, pA, pB, pC]
     refine wpS_doesU3 (i := 12) (d := some 104) (rem := [_, _, _]) rfl (by rfl) rfl Tryz.call49 (rsend_d d y.1 pv pq po pc vs2 y.2 hyn.out hok 3 p y.1.seq 0 y.1.asked) rfl rfl rfl HM69.out [7, 0, 0, 0, 0, 0] rfl covS_nil (fun _ => rfl) rfl ?_
     rintro u72 W71 hm70 -
     obtain ⟨u3, hu3⟩ : ∃ v, u72 = v := ⟨_, rfl⟩
     rw [hu3] at hm70 ⊢
     clear hu3
     have HM73 := Lib.hid hm70
     clear hm70
     simp only [Act.put, pA, pB, pC]
     refine wS1 [13] ?_
     repeat (go_big_quiet_step (fail))
     refine wpQuiet_nil ?_
     refine wpS_nil ?_
     refine block_normal ?_
     refine then_normal ?_
     refine wp_region_N [(0, 1), (1, 1)] (by kernel_rfl) ?_
     refine wS1 [0, 1] ?_
     repeat (go_big_quiet_step (fail))
     refine wpQuiet_nil ?_
     refine wpS_nil ?_
     refine then_normal ?_
     refine ⟨by kernel_rfl, ?_⟩
     have hst := rsK_succ (x := x) hp
     rw [hyy.out] at hst
     refine ⟨HL.length - (j + 1), by omega, j + 1, u3, rfl, rfl, rfl, hj1, ?_⟩
     rw [hst]
     exact (Mem.only (M := [_, _, _, _, _]) HM73.out [0, 1, 1, 0, 0] rfl)
    ·have hge3 : Hid (HL.length ≤ j) := Lib.hid (by have : ¬ (j : Int) < (HL.length : Int) := (by simpa using h63); omega)
     clear h63
     refine wp_exit ?_
     refine then_exit (then_exit (block_exit ?_))
     refine block_normal ?_
     refine block_normal ?_
     refine then_normal ?_
     have HS := Lib.hid ((dueR_1 (peers := peers) (draw := draw) hHL.out hge3.out).trans hyy.out)
     refine wp_region_N [(0, 1), (1, 1)] (by kernel_rfl) ?_
     refine wS1 [0, 1] ?_
     repeat (go_big_quiet_step (fail))
     refine wpQuiet_nil ?_
     refine wpS_nil ?_
     refine then_normal ?_
     refine ⟨by kernel_rfl, ?_⟩
     have hst := dueK_succ (peers := peers) (draw := draw) (s0 := { s with now := s.now + 1, C := restM s.C (s.now + 1) }) hy
     rw [hx.out, HS.out] at hst
     refine ⟨ids.length - (k + 1), by omega, k + 1, vs2, rfl, rfl, rfl, hk1, ?_⟩
     rw [hst]
     exact (rd_close hok (Mem.only (M := [_, _, _, _, _, _, _, _]) HM62.out [0, 0, 0, 0, 0, 1, 1, 1] rfl))
  ·obtain ⟨⟨on, oi, oh⟩, ho'⟩ : ∃ c, ofV x.1.V x.1.asked = c := ⟨_, rfl⟩
   have HS := Lib.hid (dueR_2 (peers := peers) (draw := draw) ho')
   have ho := Lib.hid ho'
   clear ho'
   refine wp_region_N [(0, 1), (1, 1), (2, 1)] (by kernel_rfl) ?_
   refine wS1 [0, 1, 2] ?_
   repeat (go_big_quiet_step (fail))
   refine wpQuiet_nil ?_
   refine wpS_nil ?_
   refine then_normal ?_
   refine wp_cond_false rfl ?_
   refine wp_seq ?_
   refine wp_region_N [(0, 1), (1, 1), (2, 1)] (by kernel_rfl) ?_
   refine wS1 [0, 1, 2] ?_
   repeat (go_big_quiet_step (fail))
   refine wpQuiet_nil ?_
   refine wpS_nil ?_
   refine then_normal ?_
   refine wp_cond_false rfl ?_
   refine wp_seq ?_
   refine wp_region_N [(0, 1), (1, 1), (2, 1)] (by kernel_rfl) ?_
   refine wS1 [0, 1, 2] ?_
   repeat (go_big_quiet_step (fail))
   refine wpQuiet_nil ?_
   refine wpS_nil ?_
   refine then_normal ?_
   refine wp_cond_true rfl ?_
   refine wp_seq ?_
   refine wp_seq ?_
   refine wp_region_taken [10] (fun k => k = d) (by kernel_rfl) (n := 11) rfl (fresh := Array.replicate 11 false) rfl ?_
   have HD := Lib.hid (Mem.drew HM12.out)
   have Crd := Mem.cell HD.out 0 rfl
   refine wpT_batchK [0, 1, 2, 3, 4, 5, 6, 7] 3 rfl (by kernel_rfl) (by kernel_rfl) (by simp only [pickL, nthL, List.cons_append, List.nil_append]; rfl) ?_
   repeat (go_big_quiet_step (fail))
   refine wpQuiet_nil ?_
   clear Crd
   have hbd := (Array.getElem?_eq_some_iff.1 (Mem.box HD.out 0 rfl)).1
   refine wpT_callAlloc2 (i := 8) (j := 9) (by kernel_rfl) (by decide) (by kernel_rfl) (by kernel_rfl) rfl rfl rfl rfl rfl Tryz.call24 (v0 := .pointer (some ⟨pv, 0, none⟩)) (v1 := .int .i64 x.1.asked) (by rfl) (by rfl) (x := 117) (y := 16) rfl rfl (by decide) (fun _ => by rfl) (fun _ => by rfl) (v := .agg #[.int .i64 on, .int .i64 oi, .int .i64 oh]) (fun W' hb => rof_at (HD.out.below hb) 1 rfl ho.out) (o := .cells #[.int .i64 0, .int .i64 0, .int .i64 0] 30) (fun _ _ => by simp [execOp, go_sem]) (fun k hk => by subst hk; exact hbd) ?_
   intro b16 W7 hb7 hn7 ho7
   simp only [Act.put, pA, pB, pC]
   have e0 : W7.cell? ⟨b16, 0, none⟩ = some (.int .i64 0) := by simp [World.cell?, ho7]
   have e1 : W7.cell? ⟨b16, 1, none⟩ = some (.int .i64 0) := by simp [World.cell?, ho7]
   have e2 : W7.cell? ⟨b16, 2, none⟩ = some (.int .i64 0) := by simp [World.cell?, ho7]
   have ef : ∀ j, W7.frozen? ⟨b16, j, none⟩ = false := fun j => by simp [World.frozen?, ho7]
   have ef0 := ef 0
   have ef1 := ef 1
   have ef2 := ef 2
   have HS7 := Lib.hid (SEnd.fill (n := on) (i := oi) (h := oh) (stars_owns _) (SEnd.boxed (stars_owns _) HD.out hb7 hn7 ho7))
   refine wpT_store (i := 10) (w' := ((W7.setCell ⟨b16, 0, none⟩ (.int .i64 on)).setCell ⟨b16, 1, none⟩ (.int .i64 oi)).setCell ⟨b16, 2, none⟩ (.int .i64 oh)) (by kernel_rfl) rfl (by rfl) (by simp [execOp, go_sem, e0, e1, e2, ef0, ef1, ef2]) (.inl rfl) rfl ?_
   refine wpT_end (by kernel_rfl) ?_
   obtain ⟨W8, hW8⟩ : ∃ W, ((W7.setCell ⟨b16, 0, none⟩ (.int .i64 on)).setCell ⟨b16, 1, none⟩ (.int .i64 oi)).setCell ⟨b16, 2, none⟩ (.int .i64 oh) = W := ⟨_, rfl⟩
   have hs8 := HS7.out
   rw [hW8] at hs8 ⊢
   have hm74 : Mem (boxT b16 (.cells #[.int .i64 on, .int .i64 oi, .int .i64 oh] 30 (0, 0)) :: _) H w W8 := hs8
   clear hW8 e0 e1 e2 ef ef0 ef1 ef2 hb7 hn7 ho7 HS7 hs8 HD hbd
   have HM75 := Lib.hid hm74
   clear hm74
   refine then_normal ?_
   refine wp_seq ?_
   refine wp_region_N [(0, 1), (1, 1), (2, 1)] (by kernel_rfl) ?_
   have Cb16 := Mem.cell HM75.out 0 rfl
   refine wS1 [0, 1, 2] ?_
   repeat (go_big_quiet_step (fail))
   refine wpQuiet_nil ?_
   clear Cb16
   refine wpS_nil ?_
   refine then_normal ?_
   refine wp_cond_split rfl (fun h76 => ?_) (fun h76 => ?_)
   ·have h280 := h76
    simp at h280
    have h28 := Lib.hid h280
    clear h280 h76
    refine wp_seq ?_
    refine wp_region_N [(0, 1), (1, 3)] (by kernel_rfl) ?_
    refine wS1 [0] ?_
    repeat (go_big_quiet_step (fail))
    refine wpQuiet_nil ?_
    refine wpS_store1 (i := 1) (v := .int _ _) (L2 := [_, _, _, _, _, _, _, _]) (cs' := [_, _, _]) rfl (by rfl) rfl rfl rfl rfl (by kernel_rfl) rfl HM75.out 0 rfl rfl rfl rfl covS_nil rfl ?_
    rintro W78 hm77 -
    have HM79 := Lib.hid hm77
    clear hm77
    refine wpS_nil ?_
    refine then_normal ?_
    refine wp_region_N [(0, 1), (1, 1), (2, 3)] (by kernel_rfl) ?_
    have Cb16 := Mem.cell HM79.out 0 rfl
    refine wS1 [0, 1] ?_
    repeat (go_big_quiet_step (fail))
    refine wpQuiet_nil ?_
    clear Cb16
    refine wpS_does2 (i := 2) (d := some 124) (rem := [_, _, _, _]) (out := [_, _, _, _, _]) rfl (by rfl) rfl Tryz.call40 (rhear_d d x.1 pv pq po pc on oi 2 hok) rfl rfl HM79.out [1, 1, 1, 1, 1] rfl covS_nil rfl rfl ?_
    rintro W81 hm80 -
    have HM82 := Lib.hid hm80
    clear hm80
    simp only [Act.put, pA, pB, pC]
    refine wpS_nil ?_
    refine then_normal ?_
    obtain ⟨hok3', pv, pq, po, pc, hm83⟩ := rd_open (Mem.front HM82.out [0] (pre := [_]) (rem := [_, _, _, _]) rfl)
    have HM84 := Lib.hid hm83
    clear hm83
    have hok3 : DsOk { (hearD x.1 ⟨on, oi, 2⟩).1 with asked := -1 } := ⟨hok3'.self, hok3'.inc, hok3'.now, hok3'.seq, by dsimp only; omega⟩
    refine wp_region_N [(0, 1), (1, 1), (2, 1), (3, 3)] (by kernel_rfl) ?_
    refine wS1 [0, 1, 2] ?_
    repeat (go_big_quiet_step (fail))
    refine wpQuiet_nil ?_
    refine wpS_store1 (i := 3) (v := .int _ _) (L2 := [_, _, _, _, _, _, _, _]) (cs' := [_, _, _, _, _, _, _, _, _, _, _]) rfl (by rfl) rfl rfl rfl rfl (by kernel_rfl) rfl HM84.out 0 rfl rfl rfl rfl covS_nil rfl ?_
    rintro W86 hm85 -
    have HM87 := Lib.hid hm85
    clear hm85
    refine wpS_nil ?_
    refine block_normal ?_
    refine block_normal ?_
    refine then_normal ?_
    refine wp_region_N [(0, 1), (1, 1)] (by kernel_rfl) ?_
    refine wS1 [0, 1] ?_
    repeat (go_big_quiet_step (fail))
    refine wpQuiet_nil ?_
    refine wpS_nil ?_
    refine then_normal ?_
    refine ⟨by kernel_rfl, ?_⟩
    have hst := dueK_succ (peers := peers) (draw := draw) (s0 := { s with now := s.now + 1, C := restM s.C (s.now + 1) }) hy
    rw [hx.out, HS.out] at hst
    rw [if_pos h28.out] at hst
    refine ⟨ids.length - (k + 1), by omega, k + 1, vs', rfl, rfl, rfl, hk1, ?_⟩
    rw [hst]
    exact (rd_close hok3 (Mem.only (M := [_, _, _, _, _, _, _, _]) HM87.out [0, 0, 0, 0, 0, 1, 1, 1] rfl))
   ·have h280 := h76
    simp at h280
    have h28 := Lib.hid h280
    clear h280 h76
    refine wp_skip ?_
    refine then_normal ?_
    have hok3 : DsOk { x.1 with asked := -1 } := ⟨hok.self, hok.inc, hok.now, hok.seq, by dsimp only; omega⟩
    refine wp_region_N [(0, 1), (1, 1), (2, 1), (3, 3)] (by kernel_rfl) ?_
    refine wS1 [0, 1, 2] ?_
    repeat (go_big_quiet_step (fail))
    refine wpQuiet_nil ?_
    refine wpS_store1 (i := 3) (v := .int _ _) (L2 := [_, _, _, _, _, _, _, _]) (cs' := [_, _, _, _, _, _, _, _, _, _, _]) rfl (by rfl) rfl rfl rfl rfl (by kernel_rfl) rfl HM75.out 1 rfl rfl rfl rfl covS_nil rfl ?_
    rintro W90 hm89 -
    have HM91 := Lib.hid hm89
    clear hm89
    refine wpS_nil ?_
    refine block_normal ?_
    refine block_normal ?_
    refine then_normal ?_
    refine wp_region_N [(0, 1), (1, 1)] (by kernel_rfl) ?_
    refine wS1 [0, 1] ?_
    repeat (go_big_quiet_step (fail))
    refine wpQuiet_nil ?_
    refine wpS_nil ?_
    refine then_normal ?_
    refine ⟨by kernel_rfl, ?_⟩
    have hst := dueK_succ (peers := peers) (draw := draw) (s0 := { s with now := s.now + 1, C := restM s.C (s.now + 1) }) hy
    rw [hx.out, HS.out] at hst
    rw [if_neg h28.out] at hst
    refine ⟨ids.length - (k + 1), by omega, k + 1, vs', rfl, rfl, rfl, hk1, ?_⟩
    rw [hst]
    exact (rd_close hok3 (Mem.only (M := [_, _, _, _, _, _, _, _]) HM91.out [0, 1, 1, 1, 1, 1, 1, 1] rfl))
  ·have HS := Lib.hid (dueR_else (peers := peers) (draw := draw) (x := x) e1 e2 e3)
   clear e1 e2 e3
   refine wp_region_N [(0, 1), (1, 1), (2, 1)] (by kernel_rfl) ?_
   refine wS1 [0, 1, 2] ?_
   repeat (go_big_quiet_step (fail))
   refine wpQuiet_nil ?_
   refine wpS_nil ?_
   refine then_normal ?_
   refine wp_cond_false rfl ?_
   refine wp_seq ?_
   refine wp_region_N [(0, 1), (1, 1), (2, 1)] (by kernel_rfl) ?_
   refine wS1 [0, 1, 2] ?_
   repeat (go_big_quiet_step (fail))
   refine wpQuiet_nil ?_
   refine wpS_nil ?_
   refine then_normal ?_
   refine wp_cond_false rfl ?_
   refine wp_seq ?_
   refine wp_region_N [(0, 1), (1, 1), (2, 1)] (by kernel_rfl) ?_
   refine wS1 [0, 1, 2] ?_
   repeat (go_big_quiet_step (fail))
   refine wpQuiet_nil ?_
   refine wpS_nil ?_
   refine then_normal ?_
   refine wp_cond_false rfl ?_
   refine wp_skip ?_
   refine block_normal ?_
   refine block_normal ?_
   refine then_normal ?_
   refine wp_region_N [(0, 1), (1, 1)] (by kernel_rfl) ?_
   refine wS1 [0, 1] ?_
   repeat (go_big_quiet_step (fail))
   refine wpQuiet_nil ?_
   refine wpS_nil ?_
   refine then_normal ?_
   refine ⟨by kernel_rfl, ?_⟩
   have hst := dueK_succ (peers := peers) (draw := draw) (s0 := { s with now := s.now + 1, C := restM s.C (s.now + 1) }) hy
   rw [hx.out, HS.out] at hst
   refine ⟨ids.length - (k + 1), by omega, k + 1, vs', rfl, rfl, rfl, hk1, ?_⟩
   rw [hst]
   exact (rd_close hok (Mem.only (M := [_, _, _, _, _, _, _, _]) HM12.out [0, 0, 0, 0, 0, 0, 0, 0] rfl))
 ·have hge : Hid (ids.length ≤ k) := Lib.hid (by have : ¬ (k : Int) < (ids.length : Int) := (by simpa using h13); omega)
  clear h13
  refine wp_exit ?_
  refine then_exit (then_exit (block_exit ?_))
  refine then_normal ?_
  refine wp_seq ?_
  refine wp_seq ?_
  refine wp_region_N [(0, 1), (1, 1), (2, 1), (3, 1), (4, 1)] (by kernel_rfl) ?_
  have Crd := Mem.cell HM12.out 0 rfl
  refine wS1 [0, 1, 2, 3, 4] ?_
  repeat (go_big_quiet_step (fail))
  refine wpQuiet_nil ?_
  clear Crd
  refine wpS_nil ?_
  refine then_normal ?_
  refine wp_cond_split rfl (fun h92 => ?_) (fun h92 => ?_)
  ·have h33 := Lib.hid (show 0 ≤ x.1.asked by simpa using h92)
   clear h92
   refine wp_seq ?_
   refine wp_region_N [(0, 1), (1, 1)] (by kernel_rfl) ?_
   refine wS1 [0, 1] ?_
   repeat (go_big_quiet_step (fail))
   refine wpQuiet_nil ?_
   refine wpS_nil ?_
   refine then_normal ?_
   refine wp_ret ?_
   refine then_ret ?_
   refine bodyPost_ret (results_tmp rfl _ _ _) rfl ?_
   have hgo := tickD_go peers draw ids hl hids.out (k := k) hge.out
   rw [hx.out] at hgo
   have hk' : askD peers draw x = x := by unfold askD; rw [if_pos h33.out]
   rw [hk'] at hgo
   rw [hgo]
   exact doesU_ret (post := fun u => [msgsT u x.2, R, rdT d x.1]) (Mem.front (pre := [_, _]) (rem := [_]) (rd_close hok (Mem.only (M := [_, _, _, _, _, _, _]) HM12.out [0, 0, 0, 0, 0, 1, 1] rfl)) [1, 1] rfl) rfl
  ·have h33 := Lib.hid (show ¬ 0 ≤ x.1.asked by simpa using h92)
   clear h92
   obtain ⟨n1, hn1'⟩ : ∃ n, (nextOf x.1.self x.1.O peers draw).1 = n := ⟨_, rfl⟩
   have hn1r : Hid (n1 = -1 ∨ (0 ≤ n1 ∧ n1 < 8)) := Lib.hid (by rw [← hn1']; exact nextOf_in)
   have hn1 := Lib.hid hn1'
   clear hn1'
   refine wp_skip ?_
   refine then_normal ?_
   refine wp_seq ?_
   refine wp_region_N [(0, 1), (1, 1), (2, 1), (3, 1), (4, 1), (5, 1), (6, 1), (7, 3), (8, 1), (9, 1), (10, 3)] (by kernel_rfl) ?_
   have Crd := Mem.cell HM12.out 0 rfl
   refine wS1 [0, 1, 2, 3, 4, 5, 6] ?_
   repeat (go_big_quiet_step (fail))
   refine wpQuiet_nil ?_
   clear Crd
   refine wpS_does3 (i := 7) (d := some 142) (rem := [_, _, _, _, _, _]) (out := [_, _, _, _, _, _, _, _]) rfl (by rfl) rfl Tryz.call56 (by have := rnext_d po x.1.self x.1.O peers draw R vp hR hpl h0 h1; rw [hn1.out] at this; exact this) rfl rfl rfl HM12.out [7, 3] rfl covS_nil rfl rfl ?_
   rintro W94 hm93 -
   have HM95 := Lib.hid hm93
   clear hm93
   simp only [Act.put, pA, pB, pC]
   refine wS1 [8, 9] ?_
   repeat (go_big_quiet_step (fail))
   refine wpQuiet_nil ?_
   refine wpS_store1 (i := 10) (v := .int _ _) (L2 := [_, _, _, _, _, _, _]) (cs' := [_, _, _, _, _, _, _, _, _, _, _]) rfl (by rfl) rfl rfl rfl rfl (by kernel_rfl) rfl HM95.out 2 rfl rfl rfl rfl covS_nil rfl ?_
   rintro W97 hm96 -
   have HM98 := Lib.hid hm96
   clear hm96
   refine wpS_nil ?_
   refine then_normal ?_
   refine wp_seq ?_
   refine wp_seq ?_
   refine wp_region_N [(0, 1), (1, 1), (2, 1), (3, 1), (4, 1)] (by kernel_rfl) ?_
   have Crd := Mem.cell HM98.out 0 rfl
   refine wS1 [0, 1, 2, 3, 4] ?_
   repeat (go_big_quiet_step (fail))
   refine wpQuiet_nil ?_
   clear Crd
   refine wpS_nil ?_
   refine then_normal ?_
   refine wp_cond_split rfl (fun h99 => ?_) (fun h99 => ?_)
   ·have h36 := Lib.hid (show n1 < 0 by simpa using h99)
    clear h99
    refine wp_seq ?_
    refine wp_region_N [(0, 1), (1, 1)] (by kernel_rfl) ?_
    refine wS1 [0, 1] ?_
    repeat (go_big_quiet_step (fail))
    refine wpQuiet_nil ?_
    refine wpS_nil ?_
    refine then_normal ?_
    refine wp_ret ?_
    refine then_ret ?_
    refine bodyPost_ret (results_tmp rfl _ _ _) rfl ?_
    have hgo := tickD_go peers draw ids hl hids.out (k := k) hge.out
    rw [hx.out] at hgo
    have hk' : askD peers draw x = ({ x.1 with asked := n1, O := (nextOf x.1.self x.1.O peers draw).2 }, x.2) := by unfold askD; rw [if_neg h33.out]; dsimp only; rw [hn1.out, if_pos h36.out]
    rw [hk'] at hgo
    rw [hgo]
    exact doesU_ret (post := fun u => [msgsT u x.2, R, rdT d { x.1 with asked := n1, O := (nextOf x.1.self x.1.O peers draw).2 }]) (Mem.front (pre := [_, _]) (rem := [_]) (rd_close (s := { x.1 with asked := n1, O := (nextOf x.1.self x.1.O peers draw).2 }) ⟨hok.self, hok.inc, hok.now, hok.seq, by have := hn1r.out; dsimp only; omega⟩ (Mem.only (M := [_, _, _, _, _, _, _]) HM98.out [0, 2, 2, 1, 1, 2, 0] rfl)) [1, 1] rfl) rfl
   ·have h36 := Lib.hid (show ¬ n1 < 0 by simpa using h99)
    clear h99
    obtain ⟨hq0, hq1⟩ := hok.seq
    obtain ⟨ht0, ht1⟩ := hok.now
    have hok1 : okM ⟨1, x.1.now + 2⟩ = true := by simp only [okM, decide_eq_true_eq]; omega
    have hok2 : okM ⟨2, x.1.now + 4⟩ = true := by simp only [okM, decide_eq_true_eq]; omega
    refine wp_skip ?_
    refine then_normal ?_
    refine wp_seq ?_
    refine wp_seq ?_
    refine wp_region_N [(0, 1), (1, 1), (2, 1), (3, 1), (4, 1), (5, 1), (6, 1), (7, 3)] (by kernel_rfl) ?_
    have Crd := Mem.cell HM98.out 0 rfl
    refine wS1 [0, 1, 2, 3, 4, 5, 6] ?_
    repeat (go_big_quiet_step (fail))
    refine wpQuiet_nil ?_
    clear Crd
    refine wpS_store1 (i := 7) (v := .int _ _) (L2 := [_, _, _, _, _, _, _]) (cs' := [_, _, _, _, _, _, _, _, _, _, _]) rfl (by rfl) rfl rfl rfl rfl (by kernel_rfl) rfl HM98.out 0 rfl rfl rfl rfl covS_nil rfl ?_
    rintro W101 hm100 -
    have HM102 := Lib.hid hm100
    clear hm100
    refine wpS_nil ?_
    refine then_normal ?_
    refine wp_seq ?_
    by_cases h39' : 1000000 < x.1.seq + 1
    ·have g39 : decide ((1000000 : Int) < x.1.seq + 1) = true := decide_eq_true h39'
     have h39 := Lib.hid h39'
     clear h39'
     refine wp_region_N [(0, 1), (1, 1), (2, 1), (3, 1), (4, 1)] (by kernel_rfl) ?_
     have Crd := Mem.cell HM102.out 0 rfl
     refine wS1 [0, 1, 2, 3, 4] ?_
     repeat (go_big_quiet_step (fail))
     refine wpQuiet_nil ?_
     clear Crd
     refine wpS_nil ?_
     refine then_normal ?_
     refine wp_cond_true rfl ?_
     refine wp_region_N [(0, 1), (1, 1), (2, 1), (3, 3)] (by kernel_rfl) ?_
     refine wS1 [0, 1, 2] ?_
     repeat (go_big_quiet_step (fail))
     refine wpQuiet_nil ?_
     refine wpS_store1 (i := 3) (v := .int _ _) (L2 := [_, _, _, _, _, _, _]) (cs' := [_, _, _, _, _, _, _, _, _, _, _]) rfl (by rfl) rfl rfl rfl rfl (by kernel_rfl) rfl HM102.out 0 rfl rfl rfl rfl covS_nil rfl ?_
     rintro W104 hm103 -
     have HM105 := Lib.hid hm103
     clear hm103
     refine wpS_nil ?_
     refine then_normal ?_
     refine wp_seq ?_
     refine wp_region_M (fun k => k ∈ ([] : List Nat)) [(0, 1), (1, 1), (2, 1), (3, 1), (4, 1), (5, 1), (6, 1), (7, 1), (8, 1), (9, 1), (10, 1), (11, 1), (12, 1), (13, 1), (14, 1), (15, 3), (16, 1)] (by kernel_rfl) (by kernel_rfl) HM105.out ?_
     intro W106 hm107
     have HM108 := Lib.hid hm107
     clear hm107
     have Crd := Mem.cell HM108.out 0 rfl
     refine wS1 [0, 1, 2, 3, 4, 5, 6, 7, 8, 9, 10, 11, 12, 13] ?_
     repeat (go_big_quiet_step (fail))
     refine wpQuiet_nil ?_
     clear Crd
     refine wpS_read (i := 14) (d := some 180) (v := .agg (RawM.enc ⟨1, 0, n1, 1, x.1.self, 0, none, 0, 0⟩).toArray) rfl (by rfl) (by kernel_rfl) rfl ?_
     simp only [Act.put, pA, pB, pC]
     refine wpS_doesU3 (i := 15) (d := some 181) (rem := [_, _]) rfl (by rfl) rfl Tryz.call49 (rsend_d d { x.1 with asked := n1, O := (nextOf x.1.self x.1.O peers draw).2, seq := 1 } pv pq po pc vs' x.2 (by have := hxn.out; omega) (by have := hn1r.out; have := h36.out; have := h39.out; exact ⟨hok.self, hok.inc, hok.now, by dsimp only; omega, by dsimp only; omega⟩) 1 n1 1 x.1.self 0) rfl rfl rfl HM108.out [7, 0, 2, 2, 1, 1] rfl covS_nil (fun _ => rfl) rfl ?_
     rintro u111 W110 hm109 -
     replace hm109 := rd_open (s := { x.1 with asked := n1, O := (nextOf x.1.self x.1.O peers draw).2, seq := 1, Q := qrest x.1.Q }) hm109
     obtain ⟨hok, pv, pq, po, pc, hm109⟩ := hm109
     have HM112 := Lib.hid hm109
     clear hm109
     simp only [Act.put, pA, pB, pC]
     refine wS1 [16] ?_
     repeat (go_big_quiet_step (fail))
     refine wpQuiet_nil ?_
     refine wpS_nil ?_
     refine then_normal ?_
     refine wp_seq ?_
     refine wp_region_M (fun k => k ∈ ([] : List Nat)) [(0, 1), (1, 1), (2, 1), (3, 1), (4, 1), (5, 1), (6, 1), (7, 1), (8, 1), (9, 3)] (by kernel_rfl) (by kernel_rfl) HM112.out ?_
     intro W113 hm114
     have HM115 := Lib.hid hm114
     clear hm114
     have Crd := Mem.cell HM115.out 0 rfl
     refine wS1 [0, 1, 2, 3, 4, 5, 6, 7, 8] ?_
     repeat (go_big_quiet_step (fail))
     refine wpQuiet_nil ?_
     clear Crd
     refine wpS_does3 (i := 9) (d := some 191) (rem := [_, _, _, _, _, _, _]) (out := [_, _, _, _, _, _, _, _]) rfl (by rfl) rfl Tryz.call57 (rset_d pc x.1.C 1 (x.1.now + 2) hok1) rfl rfl rfl HM115.out [4] rfl covS_nil rfl rfl ?_
     rintro W117 hm116 -
     have HM118 := Lib.hid hm116
     clear hm116
     simp only [Act.put, pA, pB, pC]
     refine wpS_nil ?_
     refine then_normal ?_
     refine wp_seq ?_
     refine wp_region_M (fun k => k ∈ ([] : List Nat)) [(0, 1), (1, 1), (2, 1), (3, 1), (4, 1), (5, 1), (6, 1), (7, 1), (8, 1), (9, 3)] (by kernel_rfl) (by kernel_rfl) HM118.out ?_
     intro W119 hm120
     have HM121 := Lib.hid hm120
     clear hm120
     have Crd := Mem.cell HM121.out 1 rfl
     refine wS1 [0, 1, 2, 3, 4, 5, 6, 7, 8] ?_
     repeat (go_big_quiet_step (fail))
     refine wpQuiet_nil ?_
     clear Crd
     refine wpS_does3 (i := 9) (d := some 201) (rem := [_, _, _, _, _, _, _]) (out := [_, _, _, _, _, _, _, _]) rfl (by rfl) rfl Tryz.call57 (rset_d pc (setM x.1.C ⟨1, x.1.now + 2⟩) 2 (x.1.now + 4) hok2) rfl rfl rfl HM121.out [0] rfl covS_nil rfl rfl ?_
     rintro W123 hm122 -
     have HM124 := Lib.hid hm122
     clear hm122
     simp only [Act.put, pA, pB, pC]
     refine wpS_nil ?_
     refine then_normal ?_
     refine wp_seq ?_
     refine wp_region_N [(0, 1), (1, 1)] (by kernel_rfl) ?_
     refine wS1 [0, 1] ?_
     repeat (go_big_quiet_step (fail))
     refine wpQuiet_nil ?_
     refine wpS_nil ?_
     refine then_normal ?_
     refine wp_ret ?_
     refine bodyPost_ret (results_tmp rfl _ _ _) rfl ?_
     have hgo := tickD_go peers draw ids hl hids.out (k := k) hge.out
     rw [hx.out] at hgo
     have hk' : askD peers draw x = ({ x.1 with asked := n1, O := (nextOf x.1.self x.1.O peers draw).2, seq := 1, Q := qrest x.1.Q, C := setM (setM x.1.C ⟨1, x.1.now + 2⟩) ⟨2, x.1.now + 4⟩ }, x.2 ++ [(sendD { x.1 with asked := n1, O := (nextOf x.1.self x.1.O peers draw).2, seq := 1 } 1 n1 1 x.1.self 0).2]) := by unfold askD; rw [if_neg h33.out]; dsimp only; rw [hn1.out, if_neg h36.out, if_pos h39.out]; rfl
     rw [hk'] at hgo
     rw [hgo]
     exact doesU_ret (post := fun u => [msgsT u (x.2 ++ [(sendD { x.1 with asked := n1, O := (nextOf x.1.self x.1.O peers draw).2, seq := 1 } 1 n1 1 x.1.self 0).2]), R, rdT d { x.1 with asked := n1, O := (nextOf x.1.self x.1.O peers draw).2, seq := 1, Q := qrest x.1.Q, C := setM (setM x.1.C ⟨1, x.1.now + 2⟩) ⟨2, x.1.now + 4⟩ }]) (Mem.front (pre := [_, _]) (rem := [_]) (rd_close (s := { x.1 with asked := n1, O := (nextOf x.1.self x.1.O peers draw).2, seq := 1, Q := qrest x.1.Q, C := setM (setM x.1.C ⟨1, x.1.now + 2⟩) ⟨2, x.1.now + 4⟩ }) ⟨hok.self, hok.inc, hok.now, hok.seq, hok.asked⟩ (Mem.only (M := [_, _, _, _, _, _, _]) HM124.out [1, 1, 1, 1, 0, 0, 0] rfl)) [1, 1] rfl) rfl
    ·have g39 : decide ((1000000 : Int) < x.1.seq + 1) = false := decide_eq_false h39'
     have h39 := Lib.hid h39'
     clear h39'
     refine wp_region_N [(0, 1), (1, 1), (2, 1), (3, 1), (4, 1)] (by kernel_rfl) ?_
     have Crd := Mem.cell HM102.out 0 rfl
     refine wS1 [0, 1, 2, 3, 4] ?_
     repeat (go_big_quiet_step (fail))
     refine wpQuiet_nil ?_
     clear Crd
     refine wpS_nil ?_
     refine then_normal ?_
     refine wp_cond_false rfl ?_
     refine wp_skip ?_
     refine then_normal ?_
     refine wp_seq ?_
     refine wp_region_M (fun k => k ∈ ([] : List Nat)) [(0, 1), (1, 1), (2, 1), (3, 1), (4, 1), (5, 1), (6, 1), (7, 1), (8, 1), (9, 1), (10, 1), (11, 1), (12, 1), (13, 1), (14, 1), (15, 3), (16, 1)] (by kernel_rfl) (by kernel_rfl) HM102.out ?_
     intro W125 hm126
     have HM127 := Lib.hid hm126
     clear hm126
     have Crd := Mem.cell HM127.out 0 rfl
     refine wS1 [0, 1, 2, 3, 4, 5, 6, 7, 8, 9, 10, 11, 12, 13] ?_
     repeat (go_big_quiet_step (fail))
     refine wpQuiet_nil ?_
     clear Crd
     refine wpS_read (i := 14) (d := some 180) (v := .agg (RawM.enc ⟨1, 0, n1, (x.1.seq + 1), x.1.self, 0, none, 0, 0⟩).toArray) rfl (by rfl) (by kernel_rfl) rfl ?_
     simp only [Act.put, pA, pB, pC]
     refine wpS_doesU3 (i := 15) (d := some 181) (rem := [_, _]) rfl (by rfl) rfl Tryz.call49 (rsend_d d { x.1 with asked := n1, O := (nextOf x.1.self x.1.O peers draw).2, seq := (x.1.seq + 1) } pv pq po pc vs' x.2 (by have := hxn.out; omega) (by have := hn1r.out; have := h36.out; have := h39.out; exact ⟨hok.self, hok.inc, hok.now, by dsimp only; omega, by dsimp only; omega⟩) 1 n1 (x.1.seq + 1) x.1.self 0) rfl rfl rfl HM127.out [7, 0, 2, 2, 1, 1] rfl covS_nil (fun _ => rfl) rfl ?_
     rintro u130 W129 hm128 -
     replace hm128 := rd_open (s := { x.1 with asked := n1, O := (nextOf x.1.self x.1.O peers draw).2, seq := (x.1.seq + 1), Q := qrest x.1.Q }) hm128
     obtain ⟨hok, pv, pq, po, pc, hm128⟩ := hm128
     have HM131 := Lib.hid hm128
     clear hm128
     simp only [Act.put, pA, pB, pC]
     refine wS1 [16] ?_
     repeat (go_big_quiet_step (fail))
     refine wpQuiet_nil ?_
     refine wpS_nil ?_
     refine then_normal ?_
     refine wp_seq ?_
     refine wp_region_M (fun k => k ∈ ([] : List Nat)) [(0, 1), (1, 1), (2, 1), (3, 1), (4, 1), (5, 1), (6, 1), (7, 1), (8, 1), (9, 3)] (by kernel_rfl) (by kernel_rfl) HM131.out ?_
     intro W132 hm133
     have HM134 := Lib.hid hm133
     clear hm133
     have Crd := Mem.cell HM134.out 0 rfl
     refine wS1 [0, 1, 2, 3, 4, 5, 6, 7, 8] ?_
     repeat (go_big_quiet_step (fail))
     refine wpQuiet_nil ?_
     clear Crd
     refine wpS_does3 (i := 9) (d := some 191) (rem := [_, _, _, _, _, _, _]) (out := [_, _, _, _, _, _, _, _]) rfl (by rfl) rfl Tryz.call57 (rset_d pc x.1.C 1 (x.1.now + 2) hok1) rfl rfl rfl HM134.out [4] rfl covS_nil rfl rfl ?_
     rintro W136 hm135 -
     have HM137 := Lib.hid hm135
     clear hm135
     simp only [Act.put, pA, pB, pC]
     refine wpS_nil ?_
     refine then_normal ?_
     refine wp_seq ?_
     refine wp_region_M (fun k => k ∈ ([] : List Nat)) [(0, 1), (1, 1), (2, 1), (3, 1), (4, 1), (5, 1), (6, 1), (7, 1), (8, 1), (9, 3)] (by kernel_rfl) (by kernel_rfl) HM137.out ?_
     intro W138 hm139
     have HM140 := Lib.hid hm139
     clear hm139
     have Crd := Mem.cell HM140.out 1 rfl
     refine wS1 [0, 1, 2, 3, 4, 5, 6, 7, 8] ?_
     repeat (go_big_quiet_step (fail))
     refine wpQuiet_nil ?_
     clear Crd
     refine wpS_does3 (i := 9) (d := some 201) (rem := [_, _, _, _, _, _, _]) (out := [_, _, _, _, _, _, _, _]) rfl (by rfl) rfl Tryz.call57 (rset_d pc (setM x.1.C ⟨1, x.1.now + 2⟩) 2 (x.1.now + 4) hok2) rfl rfl rfl HM140.out [0] rfl covS_nil rfl rfl ?_
     rintro W142 hm141 -
     have HM143 := Lib.hid hm141
     clear hm141
     simp only [Act.put, pA, pB, pC]
     refine wpS_nil ?_
     refine then_normal ?_
     refine wp_seq ?_
     refine wp_region_N [(0, 1), (1, 1)] (by kernel_rfl) ?_
     refine wS1 [0, 1] ?_
     repeat (go_big_quiet_step (fail))
     refine wpQuiet_nil ?_
     refine wpS_nil ?_
     refine then_normal ?_
     refine wp_ret ?_
     refine bodyPost_ret (results_tmp rfl _ _ _) rfl ?_
     have hgo := tickD_go peers draw ids hl hids.out (k := k) hge.out
     rw [hx.out] at hgo
     have hk' : askD peers draw x = ({ x.1 with asked := n1, O := (nextOf x.1.self x.1.O peers draw).2, seq := (x.1.seq + 1), Q := qrest x.1.Q, C := setM (setM x.1.C ⟨1, x.1.now + 2⟩) ⟨2, x.1.now + 4⟩ }, x.2 ++ [(sendD { x.1 with asked := n1, O := (nextOf x.1.self x.1.O peers draw).2, seq := (x.1.seq + 1) } 1 n1 (x.1.seq + 1) x.1.self 0).2]) := by unfold askD; rw [if_neg h33.out]; dsimp only; rw [hn1.out, if_neg h36.out, if_neg h39.out]; rfl
     rw [hk'] at hgo
     rw [hgo]
     exact doesU_ret (post := fun u => [msgsT u (x.2 ++ [(sendD { x.1 with asked := n1, O := (nextOf x.1.self x.1.O peers draw).2, seq := (x.1.seq + 1) } 1 n1 (x.1.seq + 1) x.1.self 0).2]), R, rdT d { x.1 with asked := n1, O := (nextOf x.1.self x.1.O peers draw).2, seq := (x.1.seq + 1), Q := qrest x.1.Q, C := setM (setM x.1.C ⟨1, x.1.now + 2⟩) ⟨2, x.1.now + 4⟩ }]) (Mem.front (pre := [_, _]) (rem := [_]) (rd_close (s := { x.1 with asked := n1, O := (nextOf x.1.self x.1.O peers draw).2, seq := (x.1.seq + 1), Q := qrest x.1.Q, C := setM (setM x.1.C ⟨1, x.1.now + 2⟩) ⟨2, x.1.now + 4⟩ }) ⟨hok.self, hok.inc, hok.now, hok.seq, hok.asked⟩ (Mem.only (M := [_, _, _, _, _, _, _]) HM143.out [1, 1, 1, 1, 0, 0, 0] rfl)) [1, 1] rfl) rfl
end Go.Proofs.YtjbihgfdgaiecaaGreat

/- The reference's detector: what the law calls; two rows of the same messages. -/
namespace Go.Proofs.YtjbihgfdgaiecaaGreat
open Go Go.RowKit Go.BigFrame
theorem rtick_d (d : Nat) (s : DS) (vp : Value) (draw : Int) (R : At) (peers : List Int) (hR : ∀ W H, R.p W H → RowAt elemI W vp peers) (hpl : peers.length ≤ 1000) (hnow : s.now < 100000) (h0 : 0 ≤ draw) (h1 : draw < 18446744073709551616) : DoesU Tryz.prog 16 #[.pointer (some ⟨d, 0, none⟩), vp, .int .u64 draw] [rdT d s, R] (fun u => [msgsT u (tickD s peers draw).2, R, rdT d (tickD s peers draw).1]) := by
 cases hl : s.left with
 | false => exact rtick_work d s vp draw R peers hR hpl hnow h0 h1 hl
 | true =>
  intro W H hs
  have h2 : star R.p (RDet d s) W H := star_comm (star_mono (fun _ h => h) (fun _ h => emp_right h) hs)
  refine (tickRD_left d s vp peers draw R.p R.owns hl hnow W H h2).mono fun e W' ⟨u, he, hr⟩ => ⟨u, he, hr.mono fun _ h => ?_⟩
  exact star_swap (star_mono (fun _ h => h) (fun _ h => star_mono (fun _ h => h) (fun _ h => star_comm (starl_emp h)) (msgsA_out h)) h)
theorem rhandle_d (d : Nat) (s : DS) (R : At) (m : InM) (l : List Cl) (hR : ∀ W H, R.p W H → RowAt elemCl W (.slice m.p m.n m.cap) l) (hl : l.length ≤ 1000) (hm : m.mid.length = 55) : DoesU Tryz.prog 14 #[.pointer (some ⟨d, 0, none⟩), .agg m.enc.toArray] [rdT d s, R] (fun u => [msgsT u (handleD s (m.mm l)).2, R, rdT d (handleD s (m.mm l)).1]) := fun W H hs => by
 have h2 : star R.p (RDet d s) W H := star_comm (star_mono (fun _ h => h) (fun _ h => emp_right h) hs)
 refine (handleRD_any d s m l R.p R.owns hR hm (by omega) W H h2).mono fun e W' ⟨u, he, hr⟩ => ⟨u, he, hr.mono fun _ h => ?_⟩
 exact star_swap (star_mono (fun _ h => h) (fun _ h => star_mono (fun _ h => h) (fun _ h => star_comm (starl_emp h)) (msgsA_out h)) h)
theorem rhearCall_d (d : Nat) (s : DS) (n i h : Int) : Does Tryz.prog 9 #[.pointer (some ⟨d, 0, none⟩), cl3 n i h] [rdT d s] (.int .i64 (hearCall s ⟨n, i, h⟩).2) [rdT d (hearCall s ⟨n, i, h⟩).1] := Does.of_trip (A := rdT d s) (B := rdT d (hearCall s ⟨n, i, h⟩).1) (hearRCall_any d s ⟨n, i, h⟩)
theorem rleave_d (d : Nat) (s : DS) : Does Tryz.prog 11 #[.pointer (some ⟨d, 0, none⟩)] [rdT d s] (cl3 s.self s.inc 4) [rdT d (leaveD s).1] := Does.of_trip (A := rdT d s) (B := rdT d (leaveD s).1) (leaveRD_any d s)
theorem rnew_d (me inc : Int) (h0 : 0 ≤ me ∧ me < 8) (h1 : 0 ≤ inc ∧ inc ≤ 1000000) : DoesU Tryz.prog 7 #[.int .i64 me, .int .i64 inc] [] (fun u => [exT fun d => [prT (u = .pointer (some ⟨d, 0, none⟩)), rdT d (newD me inc)]]) := fun W H hs => (newRD_any me inc W ⟨h0, h1⟩).mono fun e W' ⟨d, he, hr⟩ => by
 refine ⟨_, he, ?_⟩
 have h3 : Mem [rdT d (newD me inc)] (fun _ => False) W W' := hr.mono fun _ h => star_comm (starl_emp h)
 have h4 : Mem [exT fun d' => [prT (bptr d = .pointer (some ⟨d', 0, none⟩)), rdT d' (newD me inc)]] (fun _ => False) W W' := Mem.addEx (f := fun d' => [prT (bptr d = .pointer (some ⟨d', 0, none⟩)), rdT d' (newD me inc)]) d (Mem.addPr rfl h3)
 have hH : H = fun _ => False := funext fun k => propext ⟨fun h => hs k h, fun h => h.elim⟩
 subst hH
 exact h4
theorem listAt_row {W : World} {v : Value} {l : List Cl} (h : RowAt elemCl W v l) : ListAt W v l := by
 rcases h with ⟨rfl, p, cap, rfl⟩ | ⟨b, o, cap, rfl, hlt, hc⟩
 ·exact .inl ⟨rfl, p, cap, rfl⟩
 ·refine .inr ⟨b, o, cap, rfl, hlt, fun k c hk => ⟨?_, ?_, ?_⟩⟩
  ·exact hc k c hk 0 _ rfl
  ·exact hc k c hk 1 _ rfl
  ·exact hc k c hk 2 _ rfl
theorem same_d (v u : Value) (l : List Cl) (A B : At) (hA : ∀ W H, A.p W H → RowAt elemCl W v l) (hB : ∀ W H, B.p W H → RowAt elemCl W u l) (hl : l.length ≤ 1000) : Does Tryz.prog 20 #[v, u] [A, B] (.bool true) [A, B] := Does.of_gives fun W H hs => by
 obtain ⟨H1, H2, h1, ⟨H3, H4, h3, _⟩, _⟩ := hs
 exact same_any v u l W (listAt_row (hA W _ h1)) (listAt_row (hB W _ h3)) hl
theorem cls_at : ∀ {raws : List RawM} {ms : List MM} {k : Nat} {m : MM} {W : World} {H : Nat → Prop}, ClsA raws ms emp W H → ms[k]? = some m → ∃ r, raws[k]? = some r ∧ (r.kind = m.kind ∧ r.frm = m.frm ∧ r.dst = m.dst ∧ r.seq = m.seq ∧ r.for' = m.for' ∧ r.about = m.about) ∧ RowAt elemCl W (.slice r.p r.n r.cap) m.claims
 | r :: rs, m :: ms, 0, m', W, H, h, hk => by
  obtain ⟨hf, H1, H2, h1, h2, _⟩ := h
  simp only [List.getElem?_cons_zero, Option.some.injEq] at hk
  subst hk
  exact ⟨r, rfl, hf, rowAt_own h1.1⟩
 | r :: rs, m :: ms, k + 1, m', W, H, h, hk => by
  obtain ⟨hf, H1, H2, h1, h2, _⟩ := h
  obtain ⟨r', hr, h3⟩ := cls_at h2 (by simpa using hk)
  exact ⟨r', by simpa using hr, h3⟩
 | [], [], k, _, _, _, _, hk => by simp at hk
 | [], _ :: _, _, _, _, _, h, _ => h.elim
 | _ :: _, [], _, _, _, _, h, _ => h.elim
theorem cls_get {raws : List RawM} {ms : List MM} {k : Nat} {m : MM} {L : List At} {H : Nat → Prop} {w W : World} (h : Mem L H w W) (i : Nat) (hi : L[i]? = some (clsT raws ms)) (hk : ms[k]? = some m) : ∃ p n cap, raws[k]? = some ⟨m.kind, m.frm, m.dst, m.seq, m.for', m.about, p, n, cap⟩ ∧ ∀ W H, (clsT raws ms).p W H → RowAt elemCl W (.slice p n cap) m.claims := by
 obtain ⟨r, hr, ⟨e1, e2, e3, e4, e5, e6⟩, _⟩ := h.have i hi (p := ∃ r, raws[k]? = some r ∧ (r.kind = m.kind ∧ r.frm = m.frm ∧ r.dst = m.dst ∧ r.seq = m.seq ∧ r.for' = m.for' ∧ r.about = m.about) ∧ RowAt elemCl W (.slice r.p r.n r.cap) m.claims) fun _ h => cls_at h hk
 obtain ⟨rk, rf, rd, rs, ro, ra, p, n, cap⟩ := r
 dsimp only at e1 e2 e3 e4 e5 e6
 subst e1 e2 e3 e4 e5 e6
 refine ⟨p, n, cap, hr, fun W' H' h' => ?_⟩
 obtain ⟨r2, hr2, _, h2⟩ := cls_at (show ClsA raws ms emp W' H' from h') hk
 rw [hr] at hr2
 obtain rfl := Option.some.inj hr2
 exact h2
end Go.Proofs.YtjbihgfdgaiecaaGreat

/- Two rows of the same messages. -/
namespace Go.Proofs.YtjbihgfdgaiecaaGreat
open Go Go.RowKit Go.BigFrame
theorem claimsTo_len (s : DS) (dst : Int) : (claimsTo s dst).length ≤ 4 := by
 unfold claimsTo
 have := qout_len s.Q
 simp only [List.length_append, List.length_cons, List.length_nil]
 split <;> simp only [List.length_cons, List.length_nil] <;> omega
def SmallC (ms : List MM) : Prop := ∀ m ∈ ms, m.claims.length ≤ 4
theorem smallC_nil : SmallC [] := fun _ h => by simp at h
theorem smallC_one {ms : List MM} (h : SmallC ms) (s : DS) (kind dst seq fo ab : Int) : SmallC (ms ++ [(sendD s kind dst seq fo ab).2]) := fun m hm => by
 rcases List.mem_append.1 hm with h1 | h1
 ·exact h m h1
 ·rw [List.mem_singleton] at h1
  subst h1
  exact claimsTo_len s dst
theorem smallC_sends : ∀ (l : List Int) (y : DS × List MM), SmallC y.2 → SmallC (l.foldl rsStep y).2
 | [], _, h => h
 | p :: l, y, h => by
  rw [List.foldl_cons]
  exact smallC_sends l _ (smallC_one h _ _ _ _ _ _)
theorem smallC_due (peers : List Int) (draw : Int) (x : DS × List MM) (id : Int) (h : SmallC x.2) : SmallC (dueD peers draw x id).2 := by
 unfold dueD
 split
 ·split <;> exact h
 ·split
  ·exact smallC_sends _ x h
  ·split <;> exact h
theorem smallC_dues (peers : List Int) (draw : Int) : ∀ (l : List Mo) (x : DS × List MM), SmallC x.2 → SmallC (l.foldl (fun x m => dueD peers draw x m.n) x).2
 | [], _, h => h
 | m :: l, x, h => by
  rw [List.foldl_cons]
  exact smallC_dues peers draw l _ (smallC_due peers draw x m.n h)
theorem smallC_ask (peers : List Int) (draw : Int) (x : DS × List MM) (h : SmallC x.2) : SmallC (askD peers draw x).2 := by
 unfold askD
 split
 ·exact h
 ·dsimp only
  split
  ·exact h
  ·exact smallC_one h _ _ _ _ _ _
theorem smallC_tick (s : DS) (peers : List Int) (draw : Int) : SmallC (tickD s peers draw).2 := by
 unfold tickD
 dsimp only
 split
 ·exact smallC_nil
 ·exact smallC_ask _ _ _ (smallC_dues _ _ _ _ smallC_nil)
theorem smallC_send (s : DS) (kind dst seq fo ab : Int) : SmallC [(sendD s kind dst seq fo ab).2] := smallC_one smallC_nil s kind dst seq fo ab
theorem smallC_handle (s : DS) (m : MM) : SmallC (handleD s m).2 := by
 unfold handleD
 split
 ·exact smallC_nil
 ·dsimp only
  split
  ·exact smallC_nil
  ·split
   ·exact smallC_nil
   ·split
    ·exact smallC_send _ _ _ _ _ _
    ·split
     ·exact smallC_send _ _ _ _ _ _
     ·split
      ·exact smallC_send _ _ _ _ _ _
      ·exact smallC_nil
theorem ask_len (peers : List Int) (draw : Int) (x : DS × List MM) : (askD peers draw x).2.length ≤ x.2.length + 1 := by
 unfold askD
 split
 ·omega
 ·dsimp only
  split
  ·dsimp only; omega
  ·simp
theorem tick_len {s : DS} (hf : FineM s.C) (peers : List Int) (draw : Int) : (tickD s peers draw).2.length ≤ 3 := by
 cases hl : s.left with
 | true => rw [tickD_left peers draw hl]; simp
 | false =>
  rw [tickD_go peers draw _ hl rfl (Nat.le_refl _)]
  refine Nat.le_trans (ask_len _ _ _) ?_
  have := dueR_two (peers := peers) (draw := draw) (s0 := { s with now := s.now + 1, C := restM s.C (s.now + 1) }) (k := ((dueM s.C (s.now + 1)).map Mo.n).length) (due_nodup hf (s.now + 1))
  omega
theorem handle_len (s : DS) (m : MM) : (handleD s m).2.length ≤ 1 := by
 unfold handleD
 split
 ·simp
 ·dsimp only
  repeat' split
  all_goals simp
theorem msgs_two {u v : Value} {ms : List MM} {H : Nat → Prop} {w W : World} (h : Mem [msgsT u ms, msgsT v ms] H w W) : ∃ ra rb ap ac bp bc, u = .slice ap ms.length ac ∧ v = .slice bp ms.length bc ∧ Mem [rowT elemM (.slice ap ms.length ac) ra, clsT ra ms, rowT elemM (.slice bp ms.length bc) rb, clsT rb ms] H w W := by
 obtain ⟨ra, h1⟩ := msgs_open h
 have h2 : Mem (msgsT v ms :: [rowT elemM u ra, clsT ra ms]) H w W := Mem.front h1 [2] (pre := [msgsT v ms]) (rem := [_, _]) rfl
 obtain ⟨rb, h3⟩ := msgs_open h2
 have hb := cls_len h3 1 rfl
 have ha := cls_len h3 3 rfl
 obtain ⟨ap, ac, hu⟩ := row_form (h3.src 2 rfl rowT_reads)
 obtain ⟨bp, bc, hv⟩ := row_form (h3.src 0 rfl rowT_reads)
 rw [ha] at hu
 rw [hb] at hv
 subst hu hv
 exact ⟨ra, rb, ap, ac, bp, bc, rfl, rfl, Mem.only (M := [_, _, _, _]) h3 [2, 2, 0, 0] rfl⟩
theorem msgs_two_close {u v : Value} {ms : List MM} {ra rb : List RawM} {H : Nat → Prop} {w W : World} (h : Mem [rowT elemM u ra, clsT ra ms, rowT elemM v rb, clsT rb ms] H w W) : Mem [msgsT u ms, msgsT v ms] H w W := by
 have h1 := msgs_close h
 have h2 : Mem (rowT elemM v rb :: clsT rb ms :: [msgsT u ms]) H w W := Mem.front h1 [1, 1] (pre := [_, _]) (rem := [_]) rfl
 exact Mem.front (msgs_close h2) [1] (pre := [_]) (rem := [_]) rfl
set_option maxHeartbeats 4000000 in
set_option maxRecDepth 100000 in
theorem sameM_d (u v : Value) (ms : List MM) (hsm : SmallC ms) (hml : ms.length ≤ 1000) : Does Tryz.prog 12 #[u, v] [msgsT u ms, msgsT v ms] (.int .i64 0) [msgsT u ms, msgsT v ms] := by
 intro w H hp
 have HM0 := Lib.hid (mem_refl hp)
 clear hp
 obtain ⟨ra, rb, ap, ac, bp, bc, rfl, rfl, hm0⟩ := msgs_two HM0.out
 clear HM0
 have HM0 := Lib.hid hm0
 clear hm0
 go_enter Tryz.func12, Tryz.ntmps12
 simp only [List.append_eq, List.cons_append, List.nil_append]
 refine wp_seq ?_
 refine wp_region_N [(0, 1)] (by kernel_rfl) ?_
 refine wS1 [0] ?_
 repeat (go_big_quiet_step (fail))
 refine wpQuiet_nil ?_
 refine wpS_nil ?_
 refine then_normal ?_
 refine wp_seq ?_
 refine wp_seq ?_
 refine wp_region_N [(0, 1), (1, 1), (2, 1), (3, 1), (4, 1)] (by kernel_rfl) ?_
 refine wS1 [0, 1, 2, 3, 4] ?_
 repeat (go_big_quiet_step (fail))
 refine wpQuiet_nil ?_
 refine wpS_nil ?_
 refine then_normal ?_
 refine wp_cond_false rfl ?_
 refine wp_skip ?_
 refine then_normal ?_
 refine wp_seq ?_
 refine wp_seq ?_
 refine wp_region_N [(0, 1), (1, 1), (2, 1)] (by kernel_rfl) ?_
 refine wS1 [0, 1, 2] ?_
 repeat (go_big_quiet_step (fail))
 refine wpQuiet_nil ?_
 refine wpS_nil ?_
 refine then_normal ?_
 refine wp_block ?_
 refine wp_loop_F [4, 5, 6, 7, 15, 16, 17, 18, 19, 20, 21, 22, 23, 24, 25, 26, 27, 28, 29, 30, 31, 32, 33, 34, 35, 36, 37, 38, 39, 40, 41, 42, 43, 44, 45, 46, 47, 48, 49, 50, 51, 52, 53, 54, 55, 56, 57, 58, 59, 60, 61, 62, 63, 64, 65, 66, 67, 68, 69, 70, 71, 72, 73, 74, 75, 76, 77, 78, 79, 80, 81, 82, 83, 84, 85, 86, 87, 88, 89, 90, 91, 92, 93, 94] (fun n vs W' => ∃ k : Nat, n = ms.length - k ∧ vs 15 = .int .i64 (k : Int) ∧ k ≤ ms.length ∧ Mem [rowT elemM (.slice ap ms.length ac) ra, clsT ra ms, rowT elemM (.slice bp ms.length bc) rb, clsT rb ms] H w W') (n0 := ms.length) ?_ ?_
 ·exact ⟨0, rfl, rfl, Nat.zero_le _, (Mem.only (M := [_, _, _, _]) HM0.out [0, 0, 0, 0] rfl)⟩
 rintro n vs W' ⟨k, rfl, e15, hk, hm⟩
 simp only [putAll, List.map_cons, List.map_nil, Act.put, List.setIfInBounds_toArray, List.set_cons_succ, List.set_cons_zero]
 rw [e15]
 clear e15
 have HM1 := Lib.hid hm
 clear hm
 refine wp_seq ?_
 refine wp_region_N [(0, 1)] (by kernel_rfl) ?_
 refine wS1 [0] ?_
 repeat (go_big_quiet_step (fail))
 refine wpQuiet_nil ?_
 refine wpS_nil ?_
 refine then_normal ?_
 refine wp_seq ?_
 refine wp_cond_split rfl (fun h2 => ?_) (fun h2 => ?_)
 ·have hk1 : k + 1 ≤ ms.length := by have : (k : Int) < (ms.length : Int) := (by simpa using h2); omega
  clear h2
  obtain ⟨m, hms⟩ : ∃ y, ms[k]? = some y := ⟨_, List.getElem?_eq_getElem hk1⟩
  obtain ⟨pa, na, ca, hra, hca'⟩ := cls_get HM1.out 1 rfl hms
  obtain ⟨pb, nb, cb, hrb, hcb'⟩ := cls_get HM1.out 3 rfl hms
  have hca := Lib.hid hca'
  have hcb := Lib.hid hcb'
  clear hca' hcb'
  refine wp_skip ?_
  refine then_normal ?_
  refine wp_seq ?_
  refine wp_block ?_
  refine wp_seq ?_
  refine wp_region_N [(0, 1), (1, 1), (2, 1), (3, 3), (4, 1), (5, 3)] (by kernel_rfl) ?_
  refine wS1 [0] ?_
  repeat (go_big_quiet_step (fail))
  refine wpQuiet_nil ?_
  refine wpS_index (E := elemM) (i := 1) (d := some 18) rfl (by rfl) rfl rfl rfl (rowAt_src (HM1.out.src 0 rfl rowT_reads)) (hra) rfl ?_
  intro eb3 eo4 hc5
  simp only [Act.put, pA, pB, pC]
  refine wpS_loadA (i := 2) (d := some 19) (cells := (⟨m.kind, m.frm, m.dst, m.seq, m.for', m.about, pa, na, ca⟩ : RawM).enc) rfl (by rfl) rfl rfl hc5 Tryz.underlying46 rfl (by kernel_rfl) rfl ?_
  simp only [Act.put, pA, pB, pC]
  refine wpS_alloc (i := 3) (dd := 6) (z := .agg #[.int .i64 0, .int .i64 0, .int .i64 0, .int .i64 0, .int .i64 0, .int .i64 0, .int .i64 0, .int .i64 0, .string ByteArray.empty, .int .i64 0, .int .i64 0, .int .i64 0, .int .i64 0, .int .i64 0, .int .i64 0, .int .i64 0, .int .i64 0, .slice none 0 0, .int .i64 0, .int .i64 0, .int .i64 0, .int .i64 0, .int .i64 0, .int .i64 0, .int .i64 0, .int .i64 0, .int .i64 0, .int .i64 0, .slice none 0 0, .int .i64 0, .int .i64 0, .int .i64 0, .int .i64 0, .int .i64 0, .int .i64 0, .int .i64 0, .int .i64 0, .int .i64 0, .int .i64 0, .int .i64 0, .int .i64 0, .int .i64 0, .int .i64 0, .int .i64 0, .int .i64 0, .int .i64 0, .int .i64 0, .int .i64 0, .int .i64 0, .int .i64 0, .int .i64 0, .int .i64 0, .int .i64 0, .int .i64 0, .int .i64 0, .int .i64 0, .int .i64 0, .int .i64 0, .int .i64 0, .int .i64 0, .int .i64 0, .slice none 0 0]) (cs := #[.int .i64 0, .int .i64 0, .int .i64 0, .int .i64 0, .int .i64 0, .int .i64 0, .int .i64 0, .int .i64 0, .string ByteArray.empty, .int .i64 0, .int .i64 0, .int .i64 0, .int .i64 0, .int .i64 0, .int .i64 0, .int .i64 0, .int .i64 0, .slice none 0 0, .int .i64 0, .int .i64 0, .int .i64 0, .int .i64 0, .int .i64 0, .int .i64 0, .int .i64 0, .int .i64 0, .int .i64 0, .int .i64 0, .slice none 0 0, .int .i64 0, .int .i64 0, .int .i64 0, .int .i64 0, .int .i64 0, .int .i64 0, .int .i64 0, .int .i64 0, .int .i64 0, .int .i64 0, .int .i64 0, .int .i64 0, .int .i64 0, .int .i64 0, .int .i64 0, .int .i64 0, .int .i64 0, .int .i64 0, .int .i64 0, .int .i64 0, .int .i64 0, .int .i64 0, .int .i64 0, .int .i64 0, .int .i64 0, .int .i64 0, .int .i64 0, .int .i64 0, .int .i64 0, .int .i64 0, .int .i64 0, .int .i64 0, .slice none 0 0]) rfl (by rfl) rfl (by kernel_rfl) rfl HM1.out covS_nil rfl ?_
  rintro b8 W7 hm6 -
  have HM9 := Lib.hid hm6
  clear hm6
  simp only [Act.put, pA, pB, pC]
  refine wS1 [4] ?_
  repeat (go_big_quiet_step (fail))
  refine wpQuiet_nil ?_
  refine wpS_storeW (i := 5) (vs := (⟨m.kind, m.frm, m.dst, m.seq, m.for', m.about, pa, na, ca⟩ : RawM).enc) (L2 := [_, _, _, _]) rfl (by rfl) rfl rfl rfl (by kernel_rfl) (by rfl) (fun u hu => elemM.one (⟨m.kind, m.frm, m.dst, m.seq, m.for', m.about, pa, na, ca⟩ : RawM) u hu) HM9.out 0 rfl rfl covS_nil rfl ?_
  rintro W11 hm10 -
  have HM12 := Lib.hid hm10
  clear hm10
  refine wpS_nil ?_
  refine then_normal ?_
  refine wp_seq ?_
  refine wp_region_N [(0, 1), (1, 1), (2, 1), (3, 1), (4, 3), (5, 3)] (by kernel_rfl) ?_
  refine wS1 [0, 1] ?_
  repeat (go_big_quiet_step (fail))
  refine wpQuiet_nil ?_
  refine wpS_index (E := elemM) (i := 2) (d := some 22) rfl (by rfl) rfl rfl rfl (rowAt_src (HM12.out.src 3 rfl rowT_reads)) (hrb) rfl ?_
  intro eb13 eo14 hc15
  simp only [Act.put, pA, pB, pC]
  refine wpS_loadA (i := 3) (d := some 23) (cells := (⟨m.kind, m.frm, m.dst, m.seq, m.for', m.about, pb, nb, cb⟩ : RawM).enc) rfl (by rfl) rfl rfl hc15 Tryz.underlying46 rfl (by kernel_rfl) rfl ?_
  simp only [Act.put, pA, pB, pC]
  refine wpS_alloc (i := 4) (dd := 7) (z := .agg #[.int .i64 0, .int .i64 0, .int .i64 0, .int .i64 0, .int .i64 0, .int .i64 0, .int .i64 0, .int .i64 0, .string ByteArray.empty, .int .i64 0, .int .i64 0, .int .i64 0, .int .i64 0, .int .i64 0, .int .i64 0, .int .i64 0, .int .i64 0, .slice none 0 0, .int .i64 0, .int .i64 0, .int .i64 0, .int .i64 0, .int .i64 0, .int .i64 0, .int .i64 0, .int .i64 0, .int .i64 0, .int .i64 0, .slice none 0 0, .int .i64 0, .int .i64 0, .int .i64 0, .int .i64 0, .int .i64 0, .int .i64 0, .int .i64 0, .int .i64 0, .int .i64 0, .int .i64 0, .int .i64 0, .int .i64 0, .int .i64 0, .int .i64 0, .int .i64 0, .int .i64 0, .int .i64 0, .int .i64 0, .int .i64 0, .int .i64 0, .int .i64 0, .int .i64 0, .int .i64 0, .int .i64 0, .int .i64 0, .int .i64 0, .int .i64 0, .int .i64 0, .int .i64 0, .int .i64 0, .int .i64 0, .int .i64 0, .slice none 0 0]) (cs := #[.int .i64 0, .int .i64 0, .int .i64 0, .int .i64 0, .int .i64 0, .int .i64 0, .int .i64 0, .int .i64 0, .string ByteArray.empty, .int .i64 0, .int .i64 0, .int .i64 0, .int .i64 0, .int .i64 0, .int .i64 0, .int .i64 0, .int .i64 0, .slice none 0 0, .int .i64 0, .int .i64 0, .int .i64 0, .int .i64 0, .int .i64 0, .int .i64 0, .int .i64 0, .int .i64 0, .int .i64 0, .int .i64 0, .slice none 0 0, .int .i64 0, .int .i64 0, .int .i64 0, .int .i64 0, .int .i64 0, .int .i64 0, .int .i64 0, .int .i64 0, .int .i64 0, .int .i64 0, .int .i64 0, .int .i64 0, .int .i64 0, .int .i64 0, .int .i64 0, .int .i64 0, .int .i64 0, .int .i64 0, .int .i64 0, .int .i64 0, .int .i64 0, .int .i64 0, .int .i64 0, .int .i64 0, .int .i64 0, .int .i64 0, .int .i64 0, .int .i64 0, .int .i64 0, .int .i64 0, .int .i64 0, .int .i64 0, .slice none 0 0]) rfl (by rfl) rfl (by kernel_rfl) rfl HM12.out covS_nil rfl ?_
  rintro b18 W17 hm16 -
  have HM19 := Lib.hid hm16
  clear hm16
  simp only [Act.put, pA, pB, pC]
  refine wpS_storeW (i := 5) (vs := (⟨m.kind, m.frm, m.dst, m.seq, m.for', m.about, pb, nb, cb⟩ : RawM).enc) (L2 := [_, _, _, _, _]) rfl (by rfl) rfl rfl rfl (by kernel_rfl) (by rfl) (fun u hu => elemM.one (⟨m.kind, m.frm, m.dst, m.seq, m.for', m.about, pb, nb, cb⟩ : RawM) u hu) HM19.out 0 rfl rfl covS_nil rfl ?_
  rintro W21 hm20 -
  have HM22 := Lib.hid hm20
  clear hm20
  refine wpS_nil ?_
  refine then_normal ?_
  refine wp_seq ?_
  refine wp_region_N [(0, 1), (1, 1), (2, 1), (3, 1), (4, 1), (5, 1), (6, 1), (7, 1), (8, 1), (9, 1), (10, 1), (11, 1), (12, 1), (13, 1), (14, 1), (15, 1), (16, 1), (17, 1), (18, 1), (19, 1), (20, 1), (21, 1), (22, 1), (23, 1), (24, 1), (25, 1), (26, 1), (27, 1), (28, 1), (29, 1), (30, 1), (31, 1), (32, 1), (33, 1), (34, 1), (35, 1), (36, 1), (37, 1), (38, 1), (39, 1), (40, 1), (41, 1), (42, 1), (43, 1), (44, 1), (45, 1), (46, 1), (47, 1), (48, 1), (49, 1), (50, 1), (51, 1), (52, 1), (53, 1), (54, 1), (55, 1), (56, 1), (57, 1), (58, 1), (59, 1), (60, 1), (61, 1), (62, 1), (63, 1), (64, 1), (65, 1), (66, 1), (67, 3), (68, 1), (69, 1)] (by kernel_rfl) ?_
  refine wS1 [0] ?_
  repeat (go_big_quiet_step (fail))
  refine wpQuiet_nil ?_
  refine wpS_load1 (i := 1) (d := some 25) (u := .int .i64 m.kind) rfl (by rfl) rfl rfl (HM22.out.cellL 1 rfl 0) Tryz.underlying3 rfl rfl ?_
  simp only [Act.put, pA, pB, pC]
  refine wS1 [2] ?_
  repeat (go_big_quiet_step (fail))
  refine wpQuiet_nil ?_
  refine wpS_load1 (i := 3) (d := some 27) (u := .int .i64 m.kind) rfl (by rfl) rfl rfl (HM22.out.cellL 0 rfl 0) Tryz.underlying3 rfl rfl ?_
  simp only [Act.put, pA, pB, pC]
  refine wS1 [4, 5, 6] ?_
  repeat (go_big_quiet_step (fail))
  refine wpQuiet_nil ?_
  refine wpS_load1 (i := 7) (d := some 31) (u := .int .i64 m.frm) rfl (by rfl) rfl rfl (HM22.out.cellL 1 rfl 1) Tryz.underlying3 rfl rfl ?_
  simp only [Act.put, pA, pB, pC]
  refine wS1 [8] ?_
  repeat (go_big_quiet_step (fail))
  refine wpQuiet_nil ?_
  refine wpS_load1 (i := 9) (d := some 33) (u := .int .i64 m.frm) rfl (by rfl) rfl rfl (HM22.out.cellL 0 rfl 1) Tryz.underlying3 rfl rfl ?_
  simp only [Act.put, pA, pB, pC]
  refine wS1 [10, 11, 12, 13] ?_
  repeat (go_big_quiet_step (fail))
  refine wpQuiet_nil ?_
  refine wpS_load1 (i := 14) (d := some 38) (u := .int .i64 m.dst) rfl (by rfl) rfl rfl (HM22.out.cellL 1 rfl 2) Tryz.underlying3 rfl rfl ?_
  simp only [Act.put, pA, pB, pC]
  refine wS1 [15] ?_
  repeat (go_big_quiet_step (fail))
  refine wpQuiet_nil ?_
  refine wpS_load1 (i := 16) (d := some 40) (u := .int .i64 m.dst) rfl (by rfl) rfl rfl (HM22.out.cellL 0 rfl 2) Tryz.underlying3 rfl rfl ?_
  simp only [Act.put, pA, pB, pC]
  refine wS1 [17, 18, 19, 20] ?_
  repeat (go_big_quiet_step (fail))
  refine wpQuiet_nil ?_
  refine wpS_load1 (i := 21) (d := some 45) (u := .int .i64 m.seq) rfl (by rfl) rfl rfl (HM22.out.cellL 1 rfl 3) Tryz.underlying3 rfl rfl ?_
  simp only [Act.put, pA, pB, pC]
  refine wS1 [22] ?_
  repeat (go_big_quiet_step (fail))
  refine wpQuiet_nil ?_
  refine wpS_load1 (i := 23) (d := some 47) (u := .int .i64 m.seq) rfl (by rfl) rfl rfl (HM22.out.cellL 0 rfl 3) Tryz.underlying3 rfl rfl ?_
  simp only [Act.put, pA, pB, pC]
  refine wS1 [24, 25, 26, 27] ?_
  repeat (go_big_quiet_step (fail))
  refine wpQuiet_nil ?_
  refine wpS_load1 (i := 28) (d := some 52) (u := .int .i64 m.for') rfl (by rfl) rfl rfl (HM22.out.cellL 1 rfl 4) Tryz.underlying3 rfl rfl ?_
  simp only [Act.put, pA, pB, pC]
  refine wS1 [29] ?_
  repeat (go_big_quiet_step (fail))
  refine wpQuiet_nil ?_
  refine wpS_load1 (i := 30) (d := some 54) (u := .int .i64 m.for') rfl (by rfl) rfl rfl (HM22.out.cellL 0 rfl 4) Tryz.underlying3 rfl rfl ?_
  simp only [Act.put, pA, pB, pC]
  refine wS1 [31, 32, 33, 34] ?_
  repeat (go_big_quiet_step (fail))
  refine wpQuiet_nil ?_
  refine wpS_load1 (i := 35) (d := some 59) (u := .int .i64 m.about) rfl (by rfl) rfl rfl (HM22.out.cellL 1 rfl 5) Tryz.underlying3 rfl rfl ?_
  simp only [Act.put, pA, pB, pC]
  refine wS1 [36] ?_
  repeat (go_big_quiet_step (fail))
  refine wpQuiet_nil ?_
  refine wpS_load1 (i := 37) (d := some 61) (u := .int .i64 m.about) rfl (by rfl) rfl rfl (HM22.out.cellL 0 rfl 5) Tryz.underlying3 rfl rfl ?_
  simp only [Act.put, pA, pB, pC]
  refine wS1 [38, 39, 40, 41] ?_
  repeat (go_big_quiet_step (fail))
  refine wpQuiet_nil ?_
  refine wpS_load1 (i := 42) (d := some 66) (u := .int .i64 0) rfl (by rfl) rfl rfl (HM22.out.cellL 1 rfl 6) Tryz.underlying3 rfl rfl ?_
  simp only [Act.put, pA, pB, pC]
  refine wS1 [43, 44, 45, 46] ?_
  repeat (go_big_quiet_step (fail))
  refine wpQuiet_nil ?_
  refine wpS_load1 (i := 47) (d := some 71) (u := .int .i64 0) rfl (by rfl) rfl rfl (HM22.out.cellL 1 rfl 7) Tryz.underlying3 rfl rfl ?_
  simp only [Act.put, pA, pB, pC]
  refine wS1 [48, 49, 50, 51] ?_
  repeat (go_big_quiet_step (fail))
  refine wpQuiet_nil ?_
  refine wpS_load1 (i := 52) (d := some 76) (u := .string ByteArray.empty) rfl (by rfl) rfl rfl (HM22.out.cellL 1 rfl 8) Tryz.underlying9 rfl rfl ?_
  simp only [Act.put, pA, pB, pC]
  refine wS1 [53, 54, 55, 56, 57] ?_
  repeat (go_big_quiet_step (fail))
  refine wpQuiet_nil ?_
  refine wpS_load1 (i := 58) (d := some 82) (u := .slice none 0 0) rfl (by rfl) rfl rfl (HM22.out.cellL 1 rfl 17) Tryz.underlying33 rfl rfl ?_
  simp only [Act.put, pA, pB, pC]
  refine wS1 [59, 60, 61, 62, 63] ?_
  repeat (go_big_quiet_step (fail))
  refine wpQuiet_nil ?_
  refine wpS_load1 (i := 64) (d := some 88) (u := .slice pa na ca) rfl (by rfl) rfl rfl (HM22.out.cellL 1 rfl 61) Tryz.underlying44 rfl rfl ?_
  simp only [Act.put, pA, pB, pC]
  refine wS1 [65] ?_
  repeat (go_big_quiet_step (fail))
  refine wpQuiet_nil ?_
  refine wpS_load1 (i := 66) (d := some 90) (u := .slice pb nb cb) rfl (by rfl) rfl rfl (HM22.out.cellL 0 rfl 61) Tryz.underlying44 rfl rfl ?_
  simp only [Act.put, pA, pB, pC]
  refine wpS_does2 (i := 67) (d := some 91) (rem := [_, _, _, _]) (out := [_, _, _, _, _, _]) rfl (by rfl) rfl Tryz.call20 (same_d (.slice pa na ca) (.slice pb nb cb) m.claims (clsT ra ms) (clsT rb ms) hca.out hcb.out (by have := hsm m (List.mem_of_getElem? hms); omega)) rfl rfl HM22.out [3, 4] rfl covS_nil rfl rfl ?_
  rintro W24 hm23 -
  have HM25 := Lib.hid hm23
  clear hm23
  simp only [Act.put, pA, pB, pC]
  refine wS1 [68, 69] ?_
  repeat (go_big_quiet_step (fail))
  refine wpQuiet_nil ?_
  refine wpS_nil ?_
  refine then_normal ?_
  refine wp_cond_false rfl ?_
  refine wp_skip ?_
  refine block_normal ?_
  refine then_normal ?_
  refine wp_region_N [(0, 1), (1, 1)] (by kernel_rfl) ?_
  refine wS1 [0, 1] ?_
  repeat (go_big_quiet_step (fail))
  refine wpQuiet_nil ?_
  refine wpS_nil ?_
  refine then_normal ?_
  refine ⟨by kernel_rfl, ?_⟩
  exact ⟨ms.length - (k + 1), by omega, k + 1, rfl, rfl, hk1, (Mem.only (M := [_, _, _, _]) HM25.out [4, 0, 3, 0] rfl)⟩
 ·clear h2
  refine wp_exit ?_
  refine then_exit (then_exit (block_exit ?_))
  refine then_normal ?_
  refine wp_seq ?_
  refine wp_region_N [(0, 1)] (by kernel_rfl) ?_
  refine wS1 [0] ?_
  repeat (go_big_quiet_step (fail))
  refine wpQuiet_nil ?_
  refine wpS_nil ?_
  refine then_normal ?_
  refine wp_ret ?_
  refine bodyPost_ret (results_tmp rfl _ _ _) rfl ?_
  exact does_ret (msgs_two_close (Mem.only (M := [_, _, _, _]) HM1.out [0, 0, 0, 0] rfl)) rfl rfl
end Go.Proofs.YtjbihgfdgaiecaaGreat
