/- The landed detector: what it holds; the packages it calls, as contracts over objects. -/
import Derived.Test.YtjbihgfdgaiecaaGreatPE
import Derived.Test.YtjbihgfdgaiecaaGreatPF
import Derived.Test.YtjbihgfdgaiecaaGreatPL
import Derived.BigRegion
import Derived.RegionTactic
namespace Go.Proofs.YtjbihgfdgaiecaaGreat
open Go Go.RowKit
def viewT (b : Nat) (V : Vw) : At := ⟨ViewBA b V, viewBA_owns b V⟩
def queT (b : Nat) (L : List Td) : At := ⟨QueBA b L, queBA_owns b L⟩
def ordT (b : Nat) (self : Int) (O : List Int) : At := ⟨OrdBA b self O, ordBA_owns b self O⟩
def clkT (b : Nat) (L : List Mo) : At := ⟨ClkBA b L, clkBA_owns b L⟩
abbrev cl3 (n i h : Int) : Value := .agg #[.int .i64 n, .int .i64 i, .int .i64 h]
abbrev lanB (s : DS) (pv pq po pc : Nat) : Obj := .cells #[.int .i64 s.self, .int .i64 s.inc, .int .i64 s.now, .bool s.over, .bool s.left, .int .i64 s.seq, .int .i64 s.asked, .pointer (some ⟨pv, 0, none⟩), .pointer (some ⟨pq, 0, none⟩), .pointer (some ⟨po, 0, none⟩), .pointer (some ⟨pc, 0, none⟩)] 78 (0, 0)
abbrev lanT (d : Nat) (s : DS) (pv pq po pc : Nat) : At := boxT d (lanB s pv pq po pc)
abbrev LP (d : Nat) (s : DS) (pv pq po pc : Nat) : List At := [lanT d s pv pq po pc, viewT pv s.V, queT pq s.Q, ordT po s.self s.O, clkT pc s.C]
theorem view_hear (b : Nat) (V : Vw) (n i h : Int) : Does Tryz.prog 30 #[.pointer (some ⟨b, 0, none⟩), cl3 n i h] [viewT b V] (.bool (heardB V ⟨n, i, h⟩)) [viewT b (hearV V ⟨n, i, h⟩)] := Does.of_trip (viewB_hear b V ⟨n, i, h⟩)
theorem view_of (b : Nat) (V : Vw) (n : Int) : Does Tryz.prog 59 #[.pointer (some ⟨b, 0, none⟩), .int .i64 n] [viewT b V] (cl3 (ofV V n).n (ofV V n).i (ofV V n).h) [viewT b V] := Does.of_gives fun W H hs => viewB_of b V n W H (emp_right hs)
theorem que_put (q : Nat) (L : List Td) (n i h : Int) : Does Tryz.prog 66 #[.pointer (some ⟨q, 0, none⟩), cl3 n i h] [queT q L] (.bool (putOf L ⟨n, i, h⟩).2) [queT q (qput L ⟨n, i, h⟩)] := Does.of_trip (queB_put q L ⟨n, i, h⟩)
theorem clk_set (m : Nat) (L : List Mo) (n t : Int) (h : okM ⟨n, t⟩ = true) : Does Tryz.prog 80 #[.pointer (some ⟨m, 0, none⟩), .int .i64 n, .int .i64 t] [clkT m L] (.bool true) [clkT m (setM L ⟨n, t⟩)] := by
 have h1 : Does Tryz.prog 80 #[.pointer (some ⟨m, 0, none⟩), .int .i64 n, .int .i64 t] [clkT m L] (.bool (okM ⟨n, t⟩)) [clkT m (aftSet L ⟨n, t⟩)] := Does.of_trip (clkB_set m L n t)
 unfold aftSet at h1
 rw [if_pos h, h] at h1
 exact h1
theorem clk_cut (m : Nat) (L : List Mo) (n : Int) : Does Tryz.prog 71 #[.pointer (some ⟨m, 0, none⟩), .int .i64 n] [clkT m L] (.bool (hasM L n).isSome) [clkT m (cutM L n)] := Does.of_trip (clkB_cut m L n)
theorem refute_d (self inc n i h : Int) : Does Tryz.prog 88 #[.int .i64 self, .int .i64 inc, cl3 n i h] [] (.tuple #[.int .i64 (refN self inc n i h), .int .i64 (refE self inc n i h)]) [] := Does.of_any fun W => refute_any self inc n i h W
theorem may_d (n i h : Int) : Does Tryz.prog 36 #[cl3 n i h] [] (.bool (mayK ⟨n, i, h⟩)) [] := Does.of_any fun W => may_any n i h W
structure LOk (s : DS) : Prop where
 self : 0 ≤ s.self ∧ s.self < 8
 inc : 0 ≤ s.inc ∧ s.inc ≤ 1000000
 now : 0 ≤ s.now ∧ s.now ≤ 100000
 seq : 0 ≤ s.seq ∧ s.seq ≤ 1000000
 asked : -1 ≤ s.asked ∧ s.asked < 8
end Go.Proofs.YtjbihgfdgaiecaaGreat

/- The landed detector: small functions. -/
namespace Go.Proofs.YtjbihgfdgaiecaaGreat
open Go Go.RowKit Go.BigFrame
set_option maxHeartbeats 400000 in
theorem swimNode_any (n : Int) (w : World) : Gives Tryz.prog 25 #[.int .i64 n] w (.bool (nodeB n)) := by
 unfold Gives
 by_cases q0 : 0 ≤ n <;> by_cases q1 : n < 8
 all_goals try (exfalso; omega)
 all_goals first | (have H : Hid (nodeB n = true) := Lib.hid (by simp [nodeB]; omega)) | (have H : Hid (nodeB n = false) := Lib.hid (by simp [nodeB]; omega))
 all_goals
  go_enter Tryz.func25, Tryz.ntmps25
  go_wp2
  all_goals go_ret
  all_goals exact ⟨by rw [H.out]; rfl, Later.ex (by repeat (first | exact ext_refl _ | refine ext_alloc ?_ _ | refine ext_later ?_ _ | refine ext_drew ?_ | refine ext_drewN ?_ _))⟩
theorem isNode_d (n : Int) : Does Tryz.prog 25 #[.int .i64 n] [] (.bool (nodeB n)) [] := Does.of_any fun W => swimNode_any n W
set_option maxHeartbeats 4000000 in
set_option maxRecDepth 100000 in
theorem waitForDeath_d (d : Nat) (s : DS) (pv pq po pc : Nat) (n i h : Int) (hs : LOk s) (hn : 0 ≤ n ∧ n < 8) : Does Tryz.prog 67 #[.pointer (some ⟨d, 0, none⟩), cl3 n i h] [lanT d s pv pq po pc, clkT pc s.C] (.tuple #[]) [lanT d s pv pq po pc, clkT pc (if h = 2 then setM s.C ⟨100 + n, s.now + 6⟩ else cutM s.C (100 + n))] := by
 intro w H hp
 have HM0 := Lib.hid (mem_refl hp)
 clear hp
 have hok : okM ⟨100 + n, s.now + 6⟩ = true := by obtain ⟨h1, h2⟩ := hs.now; simp only [okM, decide_eq_true_eq]; omega
 obtain ⟨hnow0, hnow1⟩ := hs.now
 clear hs
 go_enter Tryz.func67, Tryz.ntmps67
 refine wp_seq ?_
 refine wp_region_N [(0, 3)] (by kernel_rfl) ?_
 refine wpS_boxA (i := 0) (dd := 3) rfl (by rfl) rfl rfl HM0.out covS_nil rfl ?_
 rintro b3 W2 hm1 -
 have HM4 := Lib.hid hm1
 clear hm1
 simp only [Act.put, pA, pB, pC]
 refine wpS_nil ?_
 refine then_normal ?_
 refine wp_seq ?_
 refine wp_region_N [(0, 1), (1, 1), (2, 1), (3, 1)] (by kernel_rfl) ?_
 have Cb3 := Mem.cell HM4.out 0 rfl
 refine wS1 [0, 1, 2, 3] ?_
 repeat (go_big_quiet_step (fail))
 refine wpQuiet_nil ?_
 clear Cb3
 refine wpS_nil ?_
 refine then_normal ?_
 refine wp_seq ?_
 refine wp_region_N [(0, 1), (1, 1), (2, 1)] (by kernel_rfl) ?_
 have Cb3 := Mem.cell HM4.out 0 rfl
 refine wS1 [0, 1, 2] ?_
 repeat (go_big_quiet_step (fail))
 refine wpQuiet_nil ?_
 clear Cb3
 refine wpS_nil ?_
 refine then_normal ?_
 refine wp_cond_split rfl (fun h5 => ?_) (fun h5 => ?_)
 ·refine wp_region_M (fun k => k ∈ ([] : List Nat)) [(0, 1), (1, 1), (2, 1), (3, 1), (4, 1), (5, 1), (6, 1), (7, 1), (8, 1), (9, 1), (10, 3)] (by kernel_rfl) (by kernel_rfl) HM4.out ?_
  intro W6 hm7
  have HM8 := Lib.hid hm7
  clear hm7
  have Cd := Mem.cell HM8.out 1 rfl
  refine wS1 [0, 1, 2, 3, 4, 5, 6, 7, 8, 9] ?_
  repeat (go_big_quiet_step (fail))
  refine wpQuiet_nil ?_
  clear Cd
  refine wpS_does3 (i := 10) (d := some 21) (rem := [_, _]) (out := [_, _, _]) rfl (by rfl) rfl Tryz.call80 (clk_set pc s.C (100 + n) (s.now + 6) hok) rfl rfl rfl HM8.out [2] rfl covS_nil rfl rfl ?_
  rintro W10 hm9 -
  have HM11 := Lib.hid hm9
  clear hm9
  simp only [Act.put, pA, pB, pC]
  refine wpS_nil ?_
  refine bodyPost_end (results_none rfl _ _ _) rfl ?_
  refine does_ret (Mem.only (M := [_, _]) HM11.out [2, 0] rfl) rfl ?_
  rw [if_pos (by simpa using h5)]
  try rfl
 ·refine wp_region_N [(0, 1), (1, 1), (2, 1), (3, 1), (4, 1), (5, 3)] (by kernel_rfl) ?_
  have Cd := Mem.cell HM4.out 1 rfl
  refine wS1 [0, 1, 2, 3, 4] ?_
  repeat (go_big_quiet_step (fail))
  refine wpQuiet_nil ?_
  clear Cd
  refine wpS_does2 (i := 5) (d := some 27) (rem := [_, _]) (out := [_, _, _]) rfl (by rfl) rfl Tryz.call71 (clk_cut pc s.C (100 + n)) rfl rfl HM4.out [2] rfl covS_nil rfl rfl ?_
  rintro W13 hm12 -
  have HM14 := Lib.hid hm12
  clear hm12
  simp only [Act.put, pA, pB, pC]
  refine wpS_nil ?_
  refine bodyPost_end (results_none rfl _ _ _) rfl ?_
  refine does_ret (Mem.only (M := [_, _]) HM14.out [2, 0] rfl) rfl ?_
  rw [if_neg (by simpa using h5)]
  try rfl
end Go.Proofs.YtjbihgfdgaiecaaGreat

/- The landed detector: to hear a claim. -/
namespace Go.Proofs.YtjbihgfdgaiecaaGreat
open Go Go.RowKit Go.BigFrame
theorem lok_hear {s : DS} (h : LOk s) (c : Cl) : LOk (hearD s c).1 := by
 have hN : refE s.self s.inc c.n c.i c.h = 0 → 0 ≤ refN s.self s.inc c.n c.i c.h ∧ refN s.self s.inc c.n c.i c.h ≤ 1000000 := by
  intro he
  have h1 := h.self
  have h2 := h.inc
  unfold refE at he
  unfold refN
  split
  ·omega
  ·rename_i hh
   rw [if_neg hh] at he
   split
   ·exact h2
   ·rename_i h3
    rw [if_neg h3] at he
    split
    ·exact h2
    ·simp only [Classical.not_not] at hh
     omega
 unfold hearD
 split
 ·split
  ·exact ⟨h.self, h.inc, h.now, h.seq, h.asked⟩
  ·rename_i he
   split
   ·exact ⟨h.self, hN (by simpa using he), h.now, h.seq, h.asked⟩
   ·exact h
 ·split
  ·exact ⟨h.self, h.inc, h.now, h.seq, h.asked⟩
  ·exact h
theorem refE_six {s : DS} (h : LOk s) {n i k : Int} (hm : mayK ⟨n, i, k⟩ = true) : refE s.self s.inc n i k = 0 ∨ refE s.self s.inc n i k = 6 := by
 have h1 := h.self
 have h2 := h.inc
 simp only [mayK, mayB, decide_eq_true_eq] at hm
 unfold refE
 rw [if_neg (by simp only [Classical.not_not]; exact ⟨h1, h2, hm⟩)]
 split
 ·exact .inl rfl
 ·split
  ·exact .inr rfl
  ·exact .inl rfl
set_option maxHeartbeats 4000000 in
set_option maxRecDepth 100000 in
theorem spread_d (d : Nat) (s : DS) (pv pq po pc : Nat) (n i h : Int) : Does Tryz.prog 41 #[.pointer (some ⟨d, 0, none⟩), cl3 n i h] [lanT d s pv pq po pc, viewT pv s.V, queT pq s.Q] (.tuple #[]) [lanT d s pv pq po pc, viewT pv (hearV s.V ⟨n, i, h⟩), queT pq (qput s.Q ⟨n, i, h⟩)] := by
 intro w H hp
 have HM0 := Lib.hid (mem_refl hp)
 clear hp
 go_enter Tryz.func41, Tryz.ntmps41
 refine wp_seq ?_
 refine wp_region_N [(0, 3)] (by kernel_rfl) ?_
 refine wpS_boxA (i := 0) (dd := 3) rfl (by rfl) rfl rfl HM0.out covS_nil rfl ?_
 rintro b3 W2 hm1 -
 have HM4 := Lib.hid hm1
 clear hm1
 simp only [Act.put, pA, pB, pC]
 refine wpS_nil ?_
 refine then_normal ?_
 refine wp_seq ?_
 refine wp_region_M (fun k => k ∈ ([] : List Nat)) [(0, 1), (1, 1), (2, 1), (3, 1), (4, 1), (5, 3)] (by kernel_rfl) (by kernel_rfl) HM4.out ?_
 intro W5 hm6
 have HM7 := Lib.hid hm6
 clear hm6
 have Cd := Mem.cell HM7.out 1 rfl
 have Cb3 := Mem.cell HM7.out 0 rfl
 refine wS1 [0, 1, 2, 3, 4] ?_
 repeat (go_big_quiet_step (fail))
 refine wpQuiet_nil ?_
 clear Cd Cb3
 refine wpS_does2 (i := 5) (d := some 9) (rem := [_, _, _]) (out := [_, _, _, _]) rfl (by rfl) rfl Tryz.call30 (view_hear pv s.V n i h) rfl rfl HM7.out [2] rfl covS_nil rfl rfl ?_
 rintro W9 hm8 -
 have HM10 := Lib.hid hm8
 clear hm8
 simp only [Act.put, pA, pB, pC]
 refine wpS_nil ?_
 refine then_normal ?_
 refine wp_region_M (fun k => k ∈ ([] : List Nat)) [(0, 1), (1, 1), (2, 1), (3, 1), (4, 1), (5, 3)] (by kernel_rfl) (by kernel_rfl) HM10.out ?_
 intro W11 hm12
 have HM13 := Lib.hid hm12
 clear hm12
 have Cd := Mem.cell HM13.out 2 rfl
 have Cb3 := Mem.cell HM13.out 1 rfl
 refine wS1 [0, 1, 2, 3, 4] ?_
 repeat (go_big_quiet_step (fail))
 refine wpQuiet_nil ?_
 clear Cd Cb3
 refine wpS_does2 (i := 5) (d := some 15) (rem := [_, _, _]) (out := [_, _, _, _]) rfl (by rfl) rfl Tryz.call66 (que_put pq s.Q n i h) rfl rfl HM13.out [3] rfl covS_nil rfl rfl ?_
 rintro W15 hm14 -
 have HM16 := Lib.hid hm14
 clear hm14
 simp only [Act.put, pA, pB, pC]
 refine wpS_nil ?_
 refine bodyPost_end (results_none rfl _ _ _) rfl ?_
 exact does_ret (Mem.only (M := [_, _, _]) HM16.out [3, 1, 0] rfl) rfl rfl
set_option maxHeartbeats 4000000 in
set_option maxRecDepth 100000 in
theorem selfAs_d (d : Nat) (s : DS) (pv pq po pc : Nat) (h : Int) : Does Tryz.prog 31 #[.pointer (some ⟨d, 0, none⟩), .int .i64 h] [lanT d s pv pq po pc] (cl3 s.self s.inc h) [lanT d s pv pq po pc] := by
 intro w H hp
 have HM0 := Lib.hid (mem_refl hp)
 clear hp
 go_enter Tryz.func31, Tryz.ntmps31
 refine wp_seq ?_
 refine wp_region_N [(0, 3)] (by kernel_rfl) ?_
 refine wpS_alloc (i := 0) (dd := 4) (z := .agg #[.int .i64 0, .int .i64 0, .int .i64 0]) (cs := #[.int .i64 0, .int .i64 0, .int .i64 0]) rfl (by rfl) rfl (by kernel_rfl) rfl HM0.out covS_nil rfl ?_
 rintro b3 W2 hm1 -
 have HM4 := Lib.hid hm1
 clear hm1
 simp only [Act.put, pA, pB, pC]
 refine wpS_nil ?_
 refine then_normal ?_
 refine wp_seq ?_
 refine wp_region_M (fun k => k ∈ ([] : List Nat)) [(0, 1), (1, 1), (2, 1), (3, 1), (4, 1), (5, 1), (6, 1), (7, 1), (8, 1), (9, 1), (10, 3)] (by kernel_rfl) (by kernel_rfl) HM4.out ?_
 intro W5 hm6
 have HM7 := Lib.hid hm6
 clear hm6
 have Cd := Mem.cell HM7.out 1 rfl
 refine wS1 [0, 1, 2, 3, 4, 5, 6, 7, 8, 9] ?_
 repeat (go_big_quiet_step (fail))
 refine wpQuiet_nil ?_
 clear Cd
 refine wpS_storeA (i := 10) (L2 := [_]) (cs' := [_, _, _]) rfl (by rfl) rfl rfl rfl (by kernel_rfl) (by rfl) HM7.out 0 rfl rfl rfl rfl covS_nil rfl ?_
 rintro W9 hm8 -
 have HM10 := Lib.hid hm8
 clear hm8
 refine wpS_nil ?_
 refine then_normal ?_
 refine wp_ret ?_
 refine ret_cell rfl HM10.out 0 rfl rfl Tryz.underlying30 rfl (by kernel_rfl) rfl ?_
 exact does_ret (Mem.only (M := [_]) HM10.out [1] rfl) rfl rfl
theorem hself_fin {d : Nat} {s s' : DS} {pv pq po pc : Nat} {c : Cl} {e : Int} {H : Nat → Prop} {w W : World} (hD : hearD s c = (s', e)) (hm : Mem (LP d s' pv pq po pc) H w W) : Ending.returned (.int .i64 e) = .returned (.int .i64 (hearD s c).2) ∧ SEnd (stars (LP d (hearD s c).1 pv pq po pc)) H w W := by
 rw [hD]
 exact ⟨rfl, hm⟩
set_option maxHeartbeats 4000000 in
set_option maxRecDepth 100000 in
theorem hearOfSelf_over (d : Nat) (s : DS) (pv pq po pc : Nat) (n i h : Int) (hn : n = s.self) (he : refE s.self s.inc n i h = 6) : Does Tryz.prog 65 #[.pointer (some ⟨d, 0, none⟩), cl3 n i h] [lanT d s pv pq po pc, viewT pv s.V, queT pq s.Q, ordT po s.self s.O, clkT pc s.C] (.int .i64 (hearD s ⟨n, i, h⟩).2) (LP d (hearD s ⟨n, i, h⟩).1 pv pq po pc) := by
 intro w H hp
 have HM0 := Lib.hid (mem_refl hp)
 clear hp
 have HD : Hid (hearD s ⟨n, i, h⟩ = ({ s with over := true }, 6)) := Lib.hid (by unfold hearD; dsimp only; rw [if_pos hn, he, if_pos (by decide)])
 have HRF : Hid (Does Tryz.prog 88 #[.int .i64 s.self, .int .i64 s.inc, cl3 n i h] [] (.tuple #[.int .i64 (refN s.self s.inc n i h), .int .i64 6]) []) := Lib.hid (by have := refute_d s.self s.inc n i h; rw [he] at this; exact this)
 clear hn he
 go_enter Tryz.func65, Tryz.ntmps65
 refine wp_seq ?_
 refine wp_region_N [(0, 3), (1, 1)] (by kernel_rfl) ?_
 refine wpS_boxA (i := 0) (dd := 3) rfl (by rfl) rfl rfl HM0.out covS_nil rfl ?_
 rintro b3 W2 hm1 -
 have HM4 := Lib.hid hm1
 clear hm1
 simp only [Act.put, pA, pB, pC]
 refine wS1 [1] ?_
 repeat (go_big_quiet_step (fail))
 refine wpQuiet_nil ?_
 refine wpS_nil ?_
 refine then_normal ?_
 refine wp_seq ?_
 refine wp_region_M (fun k => k ∈ ([] : List Nat)) [(0, 1), (1, 1), (2, 1), (3, 1), (4, 1), (5, 1), (6, 1), (7, 1), (8, 1), (9, 3), (10, 1), (11, 1), (12, 1), (13, 1), (14, 1)] (by kernel_rfl) (by kernel_rfl) HM4.out ?_
 intro W5 hm6
 have HM7 := Lib.hid hm6
 clear hm6
 have Cd := Mem.cell HM7.out 1 rfl
 have Cb3 := Mem.cell HM7.out 0 rfl
 refine wS1 [0, 1, 2, 3, 4, 5, 6, 7, 8] ?_
 repeat (go_big_quiet_step (fail))
 refine wpQuiet_nil ?_
 clear Cd Cb3
 refine wpS_does3 (i := 9) (d := some 17) (rem := [_, _, _, _, _, _]) (out := [_, _, _, _, _, _]) rfl (by rfl) rfl Tryz.call88 (HRF.out) rfl rfl rfl HM7.out [] rfl covS_nil rfl rfl ?_
 rintro W9 hm8 -
 have HM10 := Lib.hid hm8
 clear hm8
 simp only [Act.put, pA, pB, pC]
 refine wS1 [10, 11, 12, 13, 14] ?_
 repeat (go_big_quiet_step (fail))
 refine wpQuiet_nil ?_
 refine wpS_nil ?_
 refine then_normal ?_
 refine wp_seq ?_
 refine wp_seq ?_
 refine wp_region_N [(0, 1), (1, 1)] (by kernel_rfl) ?_
 refine wS1 [0, 1] ?_
 repeat (go_big_quiet_step (fail))
 refine wpQuiet_nil ?_
 refine wpS_nil ?_
 refine then_normal ?_
 refine wp_cond_true rfl ?_
 refine wp_seq ?_
 refine wp_region_N [(0, 1), (1, 1), (2, 1), (3, 3)] (by kernel_rfl) ?_
 refine wS1 [0, 1, 2] ?_
 repeat (go_big_quiet_step (fail))
 refine wpQuiet_nil ?_
 refine wpS_store1 (i := 3) (v := .bool _) (L2 := [_, _, _, _, _]) (cs' := [_, _, _, _, _, _, _, _, _, _, _]) rfl (by rfl) rfl rfl rfl rfl (by kernel_rfl) rfl HM10.out 1 rfl rfl rfl rfl covS_nil rfl ?_
 rintro W12 hm11 -
 have HM13 := Lib.hid hm11
 clear hm11
 refine wpS_nil ?_
 refine then_normal ?_
 refine wp_seq ?_
 refine wp_region_N [(0, 1), (1, 1)] (by kernel_rfl) ?_
 refine wS1 [0, 1] ?_
 repeat (go_big_quiet_step (fail))
 refine wpQuiet_nil ?_
 refine wpS_nil ?_
 refine then_normal ?_
 refine wp_ret ?_
 refine then_ret ?_
 refine bodyPost_ret (results_tmp rfl _ _ _) rfl ?_
 exact hself_fin (s' := { s with over := true }) HD.out (Mem.only (M := [_, _, _, _, _]) HM13.out [0, 1, 1, 1, 1] rfl)
set_option maxHeartbeats 4000000 in
set_option maxRecDepth 100000 in
theorem hearOfSelf_up (d : Nat) (s : DS) (pv pq po pc : Nat) (n i h : Int) (hn : n = s.self) (he : refE s.self s.inc n i h = 0) (r : Int) (hr : refN s.self s.inc n i h = r) (hup : s.inc < r) : Does Tryz.prog 65 #[.pointer (some ⟨d, 0, none⟩), cl3 n i h] [lanT d s pv pq po pc, viewT pv s.V, queT pq s.Q, ordT po s.self s.O, clkT pc s.C] (.int .i64 (hearD s ⟨n, i, h⟩).2) (LP d (hearD s ⟨n, i, h⟩).1 pv pq po pc) := by
 intro w H hp
 have HM0 := Lib.hid (mem_refl hp)
 clear hp
 have HD : Hid (hearD s ⟨n, i, h⟩ = (DS.tell { s with inc := r } ⟨s.self, r, 1⟩, 0)) := Lib.hid (by unfold hearD; dsimp only; rw [if_pos hn, he, if_neg (by decide), hr, if_pos hup])
 have HRF : Hid (Does Tryz.prog 88 #[.int .i64 s.self, .int .i64 s.inc, cl3 n i h] [] (.tuple #[.int .i64 (r), .int .i64 0]) []) := Lib.hid (by have := refute_d s.self s.inc n i h; rw [he, hr] at this; exact this)
 clear hn he hr
 have g5 : decide (s.inc < r) = true := decide_eq_true hup
 go_enter Tryz.func65, Tryz.ntmps65
 refine wp_seq ?_
 refine wp_region_N [(0, 3), (1, 1)] (by kernel_rfl) ?_
 refine wpS_boxA (i := 0) (dd := 3) rfl (by rfl) rfl rfl HM0.out covS_nil rfl ?_
 rintro b3 W2 hm1 -
 have HM4 := Lib.hid hm1
 clear hm1
 simp only [Act.put, pA, pB, pC]
 refine wS1 [1] ?_
 repeat (go_big_quiet_step (fail))
 refine wpQuiet_nil ?_
 refine wpS_nil ?_
 refine then_normal ?_
 refine wp_seq ?_
 refine wp_region_M (fun k => k ∈ ([] : List Nat)) [(0, 1), (1, 1), (2, 1), (3, 1), (4, 1), (5, 1), (6, 1), (7, 1), (8, 1), (9, 3), (10, 1), (11, 1), (12, 1), (13, 1), (14, 1)] (by kernel_rfl) (by kernel_rfl) HM4.out ?_
 intro W5 hm6
 have HM7 := Lib.hid hm6
 clear hm6
 have Cd := Mem.cell HM7.out 1 rfl
 have Cb3 := Mem.cell HM7.out 0 rfl
 refine wS1 [0, 1, 2, 3, 4, 5, 6, 7, 8] ?_
 repeat (go_big_quiet_step (fail))
 refine wpQuiet_nil ?_
 clear Cd Cb3
 refine wpS_does3 (i := 9) (d := some 17) (rem := [_, _, _, _, _, _]) (out := [_, _, _, _, _, _]) rfl (by rfl) rfl Tryz.call88 (HRF.out) rfl rfl rfl HM7.out [] rfl covS_nil rfl rfl ?_
 rintro W9 hm8 -
 have HM10 := Lib.hid hm8
 clear hm8
 simp only [Act.put, pA, pB, pC]
 refine wS1 [10, 11, 12, 13, 14] ?_
 repeat (go_big_quiet_step (fail))
 refine wpQuiet_nil ?_
 refine wpS_nil ?_
 refine then_normal ?_
 refine wp_seq ?_
 refine wp_seq ?_
 refine wp_region_N [(0, 1), (1, 1)] (by kernel_rfl) ?_
 refine wS1 [0, 1] ?_
 repeat (go_big_quiet_step (fail))
 refine wpQuiet_nil ?_
 refine wpS_nil ?_
 refine then_normal ?_
 refine wp_cond_false rfl ?_
 refine wp_skip ?_
 refine then_normal ?_
 refine wp_seq ?_
 refine wp_seq ?_
 refine wp_region_N [(0, 1), (1, 1), (2, 1), (3, 1), (4, 1), (5, 1)] (by kernel_rfl) ?_
 have Cd := Mem.cell HM10.out 1 rfl
 refine wS1 [0, 1, 2, 3, 4, 5] ?_
 repeat (go_big_quiet_step (fail))
 refine wpQuiet_nil ?_
 clear Cd
 refine wpS_nil ?_
 refine then_normal ?_
 refine wp_cond_true rfl ?_
 refine wp_seq ?_
 refine wp_region_N [(0, 1), (1, 1), (2, 1), (3, 1), (4, 3)] (by kernel_rfl) ?_
 refine wS1 [0, 1, 2, 3] ?_
 repeat (go_big_quiet_step (fail))
 refine wpQuiet_nil ?_
 refine wpS_store1 (i := 4) (v := .int _ _) (L2 := [_, _, _, _, _]) (cs' := [_, _, _, _, _, _, _, _, _, _, _]) rfl (by rfl) rfl rfl rfl rfl (by kernel_rfl) rfl HM10.out 1 rfl rfl rfl rfl covS_nil rfl ?_
 rintro W12 hm11 -
 have HM13 := Lib.hid hm11
 clear hm11
 refine wpS_nil ?_
 refine then_normal ?_
 refine wp_region_N [(0, 1), (1, 1), (2, 3), (3, 3)] (by kernel_rfl) ?_
 refine wS1 [0, 1] ?_
 repeat (go_big_quiet_step (fail))
 refine wpQuiet_nil ?_
 refine wpS_does2 (i := 2) (d := some 38) (rem := [_, _, _, _, _]) (out := [_, _, _, _, _, _]) rfl (by rfl) rfl Tryz.call31 (selfAs_d d { s with inc := r } pv pq po pc 1) rfl rfl HM13.out [0] rfl covS_nil rfl rfl ?_
 rintro W15 hm14 -
 have HM16 := Lib.hid hm14
 clear hm14
 simp only [Act.put, pA, pB, pC]
 refine wpS_does2 (i := 3) (d := some 39) (rem := [_, _, _]) (out := [_, _, _, _, _, _]) rfl (by rfl) rfl Tryz.call41 (spread_d d { s with inc := r } pv pq po pc s.self r 1) rfl rfl HM16.out [0, 1, 1] rfl covS_nil rfl rfl ?_
 rintro W18 hm17 -
 have HM19 := Lib.hid hm17
 clear hm17
 simp only [Act.put, pA, pB, pC]
 refine wpS_nil ?_
 refine then_normal ?_
 refine wp_seq ?_
 refine wp_region_N [(0, 1)] (by kernel_rfl) ?_
 refine wS1 [0] ?_
 repeat (go_big_quiet_step (fail))
 refine wpQuiet_nil ?_
 refine wpS_nil ?_
 refine then_normal ?_
 refine wp_ret ?_
 refine bodyPost_ret (results_tmp rfl _ _ _) rfl ?_
 exact hself_fin (s' := DS.tell { s with inc := r } ⟨s.self, r, 1⟩) HD.out (Mem.only (M := [_, _, _, _, _]) HM19.out [0, 0, 0, 1, 1] rfl)
set_option maxHeartbeats 4000000 in
set_option maxRecDepth 100000 in
theorem hearOfSelf_low (d : Nat) (s : DS) (pv pq po pc : Nat) (n i h : Int) (hn : n = s.self) (he : refE s.self s.inc n i h = 0) (r : Int) (hr : refN s.self s.inc n i h = r) (hup : ¬ s.inc < r) : Does Tryz.prog 65 #[.pointer (some ⟨d, 0, none⟩), cl3 n i h] [lanT d s pv pq po pc, viewT pv s.V, queT pq s.Q, ordT po s.self s.O, clkT pc s.C] (.int .i64 (hearD s ⟨n, i, h⟩).2) (LP d (hearD s ⟨n, i, h⟩).1 pv pq po pc) := by
 intro w H hp
 have HM0 := Lib.hid (mem_refl hp)
 clear hp
 have HD : Hid (hearD s ⟨n, i, h⟩ = (s, 0)) := Lib.hid (by unfold hearD; dsimp only; rw [if_pos hn, he, if_neg (by decide), hr, if_neg hup])
 have HRF : Hid (Does Tryz.prog 88 #[.int .i64 s.self, .int .i64 s.inc, cl3 n i h] [] (.tuple #[.int .i64 (r), .int .i64 0]) []) := Lib.hid (by have := refute_d s.self s.inc n i h; rw [he, hr] at this; exact this)
 clear hn he hr
 have g5 : decide (s.inc < r) = false := decide_eq_false hup
 go_enter Tryz.func65, Tryz.ntmps65
 refine wp_seq ?_
 refine wp_region_N [(0, 3), (1, 1)] (by kernel_rfl) ?_
 refine wpS_boxA (i := 0) (dd := 3) rfl (by rfl) rfl rfl HM0.out covS_nil rfl ?_
 rintro b3 W2 hm1 -
 have HM4 := Lib.hid hm1
 clear hm1
 simp only [Act.put, pA, pB, pC]
 refine wS1 [1] ?_
 repeat (go_big_quiet_step (fail))
 refine wpQuiet_nil ?_
 refine wpS_nil ?_
 refine then_normal ?_
 refine wp_seq ?_
 refine wp_region_M (fun k => k ∈ ([] : List Nat)) [(0, 1), (1, 1), (2, 1), (3, 1), (4, 1), (5, 1), (6, 1), (7, 1), (8, 1), (9, 3), (10, 1), (11, 1), (12, 1), (13, 1), (14, 1)] (by kernel_rfl) (by kernel_rfl) HM4.out ?_
 intro W5 hm6
 have HM7 := Lib.hid hm6
 clear hm6
 have Cd := Mem.cell HM7.out 1 rfl
 have Cb3 := Mem.cell HM7.out 0 rfl
 refine wS1 [0, 1, 2, 3, 4, 5, 6, 7, 8] ?_
 repeat (go_big_quiet_step (fail))
 refine wpQuiet_nil ?_
 clear Cd Cb3
 refine wpS_does3 (i := 9) (d := some 17) (rem := [_, _, _, _, _, _]) (out := [_, _, _, _, _, _]) rfl (by rfl) rfl Tryz.call88 (HRF.out) rfl rfl rfl HM7.out [] rfl covS_nil rfl rfl ?_
 rintro W9 hm8 -
 have HM10 := Lib.hid hm8
 clear hm8
 simp only [Act.put, pA, pB, pC]
 refine wS1 [10, 11, 12, 13, 14] ?_
 repeat (go_big_quiet_step (fail))
 refine wpQuiet_nil ?_
 refine wpS_nil ?_
 refine then_normal ?_
 refine wp_seq ?_
 refine wp_seq ?_
 refine wp_region_N [(0, 1), (1, 1)] (by kernel_rfl) ?_
 refine wS1 [0, 1] ?_
 repeat (go_big_quiet_step (fail))
 refine wpQuiet_nil ?_
 refine wpS_nil ?_
 refine then_normal ?_
 refine wp_cond_false rfl ?_
 refine wp_skip ?_
 refine then_normal ?_
 refine wp_seq ?_
 refine wp_seq ?_
 refine wp_region_N [(0, 1), (1, 1), (2, 1), (3, 1), (4, 1), (5, 1)] (by kernel_rfl) ?_
 have Cd := Mem.cell HM10.out 1 rfl
 refine wS1 [0, 1, 2, 3, 4, 5] ?_
 repeat (go_big_quiet_step (fail))
 refine wpQuiet_nil ?_
 clear Cd
 refine wpS_nil ?_
 refine then_normal ?_
 refine wp_cond_false rfl ?_
 refine wp_skip ?_
 refine then_normal ?_
 refine wp_seq ?_
 refine wp_region_N [(0, 1)] (by kernel_rfl) ?_
 refine wS1 [0] ?_
 repeat (go_big_quiet_step (fail))
 refine wpQuiet_nil ?_
 refine wpS_nil ?_
 refine then_normal ?_
 refine wp_ret ?_
 refine bodyPost_ret (results_tmp rfl _ _ _) rfl ?_
 exact hself_fin (s' := s) HD.out (Mem.only (M := [_, _, _, _, _]) HM10.out [1, 1, 1, 1, 1] rfl)
theorem hearOfSelf_d (d : Nat) (s : DS) (pv pq po pc : Nat) (n i h : Int) (hs : LOk s) (hm : mayK ⟨n, i, h⟩ = true) (hn : n = s.self) : Does Tryz.prog 65 #[.pointer (some ⟨d, 0, none⟩), cl3 n i h] (LP d s pv pq po pc) (.int .i64 (hearD s ⟨n, i, h⟩).2) (LP d (hearD s ⟨n, i, h⟩).1 pv pq po pc) := by
 rcases refE_six hs hm with he | he
 ·by_cases hup : s.inc < refN s.self s.inc n i h
  ·exact hearOfSelf_up d s pv pq po pc n i h hn he _ rfl hup
  ·exact hearOfSelf_low d s pv pq po pc n i h hn he _ rfl hup
 ·exact hearOfSelf_over d s pv pq po pc n i h hn he
end Go.Proofs.YtjbihgfdgaiecaaGreat

/- The landed detector: to hear a claim, whole; what is worse, what speaks. -/
namespace Go.Proofs.YtjbihgfdgaiecaaGreat
open Go Go.RowKit Go.BigFrame
set_option maxHeartbeats 4000000 in
set_option maxRecDepth 100000 in
theorem hear_self (d : Nat) (s : DS) (pv pq po pc : Nat) (n i h : Int) (hs : LOk s) (hm : mayK ⟨n, i, h⟩ = true) (hn : n = s.self) : Does Tryz.prog 37 #[.pointer (some ⟨d, 0, none⟩), cl3 n i h] [lanT d s pv pq po pc, viewT pv s.V, queT pq s.Q, ordT po s.self s.O, clkT pc s.C] (.int .i64 (hearD s ⟨n, i, h⟩).2) (LP d (hearD s ⟨n, i, h⟩).1 pv pq po pc) := by
 intro w H hp
 have HM0 := Lib.hid (mem_refl hp)
 clear hp
 have g1 : (n == s.self) = true := by rw [beq_iff_eq]; exact hn
 have HO := Lib.hid (hearOfSelf_d d s pv pq po pc n i h hs hm hn)
 clear hn hm hs
 go_enter Tryz.func37, Tryz.ntmps37
 refine wp_seq ?_
 refine wp_region_N [(0, 3), (1, 1)] (by kernel_rfl) ?_
 refine wpS_boxA (i := 0) (dd := 3) rfl (by rfl) rfl rfl HM0.out covS_nil rfl ?_
 rintro b3 W2 hm1 -
 have HM4 := Lib.hid hm1
 clear hm1
 simp only [Act.put, pA, pB, pC]
 refine wS1 [1] ?_
 repeat (go_big_quiet_step (fail))
 refine wpQuiet_nil ?_
 refine wpS_nil ?_
 refine then_normal ?_
 refine wp_seq ?_
 refine wp_seq ?_
 refine wp_region_M (fun k => k ∈ ([] : List Nat)) [(0, 1), (1, 1), (2, 1), (3, 1), (4, 1), (5, 1), (6, 1)] (by kernel_rfl) (by kernel_rfl) HM4.out ?_
 intro W5 hm6
 have HM7 := Lib.hid hm6
 clear hm6
 have Cb3 := Mem.cell HM7.out 0 rfl
 have Cd := Mem.cell HM7.out 1 rfl
 refine wS1 [0, 1, 2, 3, 4, 5, 6] ?_
 repeat (go_big_quiet_step (fail))
 refine wpQuiet_nil ?_
 clear Cb3 Cd
 refine wpS_nil ?_
 refine then_normal ?_
 refine wp_cond_true rfl ?_
 refine wp_seq ?_
 refine wp_region_N [(0, 1), (1, 1), (2, 3), (3, 1)] (by kernel_rfl) ?_
 have Cb3 := Mem.cell HM7.out 0 rfl
 refine wS1 [0, 1] ?_
 repeat (go_big_quiet_step (fail))
 refine wpQuiet_nil ?_
 clear Cb3
 refine wpS_does2 (i := 2) (d := some 14) (rem := [_]) (out := [_, _, _, _, _, _]) rfl (by rfl) rfl Tryz.call65 (HO.out) rfl rfl HM7.out [1, 1, 1, 1, 1] rfl covS_nil rfl rfl ?_
 rintro W9 hm8 -
 have HM10 := Lib.hid hm8
 clear hm8
 simp only [Act.put, pA, pB, pC]
 refine wS1 [3] ?_
 repeat (go_big_quiet_step (fail))
 refine wpQuiet_nil ?_
 refine wpS_nil ?_
 refine then_normal ?_
 refine wp_ret ?_
 refine then_ret ?_
 refine bodyPost_ret (results_tmp rfl _ _ _) rfl ?_
 exact does_ret (Mem.only (M := [_, _, _, _, _]) HM10.out [0, 0, 0, 0, 0] rfl) rfl rfl
set_option maxHeartbeats 4000000 in
set_option maxRecDepth 100000 in
theorem hear_other (d : Nat) (s : DS) (pv pq po pc : Nat) (n i h : Int) (hs : LOk s) (hm : mayK ⟨n, i, h⟩ = true) (hn : n ≠ s.self) (hh : heardB s.V ⟨n, i, h⟩ = true) : Does Tryz.prog 37 #[.pointer (some ⟨d, 0, none⟩), cl3 n i h] [lanT d s pv pq po pc, viewT pv s.V, queT pq s.Q, ordT po s.self s.O, clkT pc s.C] (.int .i64 (hearD s ⟨n, i, h⟩).2) (LP d (hearD s ⟨n, i, h⟩).1 pv pq po pc) := by
 intro w H hp
 have HM0 := Lib.hid (mem_refl hp)
 clear hp
 have HD : Hid (hearD s ⟨n, i, h⟩ = ({ s with V := hearV s.V ⟨n, i, h⟩, Q := qput s.Q ⟨n, i, h⟩, C := if h = 2 then setM s.C ⟨100 + n, s.now + 6⟩ else cutM s.C (100 + n) }, 0)) := Lib.hid (by unfold hearD; dsimp only; rw [if_neg hn, if_pos hh])
 have HV : Hid (Does Tryz.prog 30 #[.pointer (some ⟨pv, 0, none⟩), cl3 n i h] [viewT pv s.V] (.bool true) [viewT pv (hearV s.V ⟨n, i, h⟩)]) := Lib.hid (by have := view_hear pv s.V n i h; rw [hh] at this; exact this)
 have g1 : (n == s.self) = false := by rw [beq_eq_false_iff_ne]; exact hn
 have hn8 := mayK_node hm
 have HW := Lib.hid (waitForDeath_d d s pv pq po pc n i h hs hn8)
 clear hn hh hm hs hn8
 go_enter Tryz.func37, Tryz.ntmps37
 refine wp_seq ?_
 refine wp_region_N [(0, 3), (1, 1)] (by kernel_rfl) ?_
 refine wpS_boxA (i := 0) (dd := 3) rfl (by rfl) rfl rfl HM0.out covS_nil rfl ?_
 rintro b3 W2 hm1 -
 have HM4 := Lib.hid hm1
 clear hm1
 simp only [Act.put, pA, pB, pC]
 refine wS1 [1] ?_
 repeat (go_big_quiet_step (fail))
 refine wpQuiet_nil ?_
 refine wpS_nil ?_
 refine then_normal ?_
 refine wp_seq ?_
 refine wp_seq ?_
 refine wp_region_M (fun k => k ∈ ([] : List Nat)) [(0, 1), (1, 1), (2, 1), (3, 1), (4, 1), (5, 1), (6, 1)] (by kernel_rfl) (by kernel_rfl) HM4.out ?_
 intro W5 hm6
 have HM7 := Lib.hid hm6
 clear hm6
 have Cb3 := Mem.cell HM7.out 0 rfl
 have Cd := Mem.cell HM7.out 1 rfl
 refine wS1 [0, 1, 2, 3, 4, 5, 6] ?_
 repeat (go_big_quiet_step (fail))
 refine wpQuiet_nil ?_
 clear Cb3 Cd
 refine wpS_nil ?_
 refine then_normal ?_
 refine wp_cond_false rfl ?_
 refine wp_skip ?_
 refine then_normal ?_
 refine wp_seq ?_
 refine wp_seq ?_
 refine wp_region_M (fun k => k ∈ ([] : List Nat)) [(0, 1), (1, 1), (2, 1), (3, 1), (4, 1), (5, 3)] (by kernel_rfl) (by kernel_rfl) HM7.out ?_
 intro W8 hm9
 have HM10 := Lib.hid hm9
 clear hm9
 have Cd := Mem.cell HM10.out 1 rfl
 have Cb3 := Mem.cell HM10.out 0 rfl
 refine wS1 [0, 1, 2, 3, 4] ?_
 repeat (go_big_quiet_step (fail))
 refine wpQuiet_nil ?_
 clear Cd Cb3
 refine wpS_does2 (i := 5) (d := some 20) (rem := [_, _, _, _, _]) (out := [_, _, _, _, _, _]) rfl (by rfl) rfl Tryz.call30 (HV.out) rfl rfl HM10.out [2] rfl covS_nil rfl rfl ?_
 rintro W12 hm11 -
 have HM13 := Lib.hid hm11
 clear hm11
 simp only [Act.put, pA, pB, pC]
 refine wpS_nil ?_
 refine then_normal ?_
 refine wp_cond_true rfl ?_
 refine wp_seq ?_
 refine wp_region_M (fun k => k ∈ ([] : List Nat)) [(0, 1), (1, 1), (2, 1), (3, 1), (4, 1), (5, 3)] (by kernel_rfl) (by kernel_rfl) HM13.out ?_
 intro W14 hm15
 have HM16 := Lib.hid hm15
 clear hm15
 have Cd := Mem.cell HM16.out 2 rfl
 have Cb3 := Mem.cell HM16.out 1 rfl
 refine wS1 [0, 1, 2, 3, 4] ?_
 repeat (go_big_quiet_step (fail))
 refine wpQuiet_nil ?_
 clear Cd Cb3
 refine wpS_does2 (i := 5) (d := some 26) (rem := [_, _, _, _, _]) (out := [_, _, _, _, _, _]) rfl (by rfl) rfl Tryz.call66 (que_put pq s.Q n i h) rfl rfl HM16.out [3] rfl covS_nil rfl rfl ?_
 rintro W18 hm17 -
 have HM19 := Lib.hid hm17
 clear hm17
 simp only [Act.put, pA, pB, pC]
 refine wpS_nil ?_
 refine then_normal ?_
 refine wp_region_N [(0, 1), (1, 1), (2, 3)] (by kernel_rfl) ?_
 have Cb3 := Mem.cell HM19.out 2 rfl
 refine wS1 [0, 1] ?_
 repeat (go_big_quiet_step (fail))
 refine wpQuiet_nil ?_
 clear Cb3
 refine wpS_does2 (i := 2) (d := some 29) (rem := [_, _, _, _]) (out := [_, _, _, _, _, _]) rfl (by rfl) rfl Tryz.call67 (HW.out) rfl rfl HM19.out [3, 4] rfl covS_nil rfl rfl ?_
 rintro W21 hm20 -
 have HM22 := Lib.hid hm20
 clear hm20
 simp only [Act.put, pA, pB, pC]
 refine wpS_nil ?_
 refine then_normal ?_
 refine wp_seq ?_
 refine wp_region_N [(0, 1)] (by kernel_rfl) ?_
 refine wS1 [0] ?_
 repeat (go_big_quiet_step (fail))
 refine wpQuiet_nil ?_
 refine wpS_nil ?_
 refine then_normal ?_
 refine wp_ret ?_
 refine bodyPost_ret (results_tmp rfl _ _ _) rfl ?_
 exact hself_fin (s' := { s with V := hearV s.V ⟨n, i, h⟩, Q := qput s.Q ⟨n, i, h⟩, C := if h = 2 then setM s.C ⟨100 + n, s.now + 6⟩ else cutM s.C (100 + n) }) HD.out (Mem.only (M := [_, _, _, _, _]) HM22.out [0, 2, 1, 2, 0] rfl)
set_option maxHeartbeats 4000000 in
set_option maxRecDepth 100000 in
theorem hear_none (d : Nat) (s : DS) (pv pq po pc : Nat) (n i h : Int) (hs : LOk s) (hm : mayK ⟨n, i, h⟩ = true) (hn : n ≠ s.self) (hh : heardB s.V ⟨n, i, h⟩ = false) : Does Tryz.prog 37 #[.pointer (some ⟨d, 0, none⟩), cl3 n i h] [lanT d s pv pq po pc, viewT pv s.V, queT pq s.Q, ordT po s.self s.O, clkT pc s.C] (.int .i64 (hearD s ⟨n, i, h⟩).2) (LP d (hearD s ⟨n, i, h⟩).1 pv pq po pc) := by
 intro w H hp
 have HM0 := Lib.hid (mem_refl hp)
 clear hp
 have HD : Hid (hearD s ⟨n, i, h⟩ = (s, 0)) := Lib.hid (by unfold hearD; dsimp only; rw [if_neg hn, if_neg (by rw [hh]; decide)])
 have HV : Hid (Does Tryz.prog 30 #[.pointer (some ⟨pv, 0, none⟩), cl3 n i h] [viewT pv s.V] (.bool false) [viewT pv s.V]) := Lib.hid (by have := view_hear pv s.V n i h; rw [hh] at this; unfold hearV at this; rw [hh] at this; exact this)
 have g1 : (n == s.self) = false := by rw [beq_eq_false_iff_ne]; exact hn
 clear hn hh hm hs
 go_enter Tryz.func37, Tryz.ntmps37
 refine wp_seq ?_
 refine wp_region_N [(0, 3), (1, 1)] (by kernel_rfl) ?_
 refine wpS_boxA (i := 0) (dd := 3) rfl (by rfl) rfl rfl HM0.out covS_nil rfl ?_
 rintro b3 W2 hm1 -
 have HM4 := Lib.hid hm1
 clear hm1
 simp only [Act.put, pA, pB, pC]
 refine wS1 [1] ?_
 repeat (go_big_quiet_step (fail))
 refine wpQuiet_nil ?_
 refine wpS_nil ?_
 refine then_normal ?_
 refine wp_seq ?_
 refine wp_seq ?_
 refine wp_region_M (fun k => k ∈ ([] : List Nat)) [(0, 1), (1, 1), (2, 1), (3, 1), (4, 1), (5, 1), (6, 1)] (by kernel_rfl) (by kernel_rfl) HM4.out ?_
 intro W5 hm6
 have HM7 := Lib.hid hm6
 clear hm6
 have Cb3 := Mem.cell HM7.out 0 rfl
 have Cd := Mem.cell HM7.out 1 rfl
 refine wS1 [0, 1, 2, 3, 4, 5, 6] ?_
 repeat (go_big_quiet_step (fail))
 refine wpQuiet_nil ?_
 clear Cb3 Cd
 refine wpS_nil ?_
 refine then_normal ?_
 refine wp_cond_false rfl ?_
 refine wp_skip ?_
 refine then_normal ?_
 refine wp_seq ?_
 refine wp_seq ?_
 refine wp_region_M (fun k => k ∈ ([] : List Nat)) [(0, 1), (1, 1), (2, 1), (3, 1), (4, 1), (5, 3)] (by kernel_rfl) (by kernel_rfl) HM7.out ?_
 intro W8 hm9
 have HM10 := Lib.hid hm9
 clear hm9
 have Cd := Mem.cell HM10.out 1 rfl
 have Cb3 := Mem.cell HM10.out 0 rfl
 refine wS1 [0, 1, 2, 3, 4] ?_
 repeat (go_big_quiet_step (fail))
 refine wpQuiet_nil ?_
 clear Cd Cb3
 refine wpS_does2 (i := 5) (d := some 20) (rem := [_, _, _, _, _]) (out := [_, _, _, _, _, _]) rfl (by rfl) rfl Tryz.call30 (HV.out) rfl rfl HM10.out [2] rfl covS_nil rfl rfl ?_
 rintro W12 hm11 -
 have HM13 := Lib.hid hm11
 clear hm11
 simp only [Act.put, pA, pB, pC]
 refine wpS_nil ?_
 refine then_normal ?_
 refine wp_cond_false rfl ?_
 refine wp_skip ?_
 refine then_normal ?_
 refine wp_seq ?_
 refine wp_region_N [(0, 1)] (by kernel_rfl) ?_
 refine wS1 [0] ?_
 repeat (go_big_quiet_step (fail))
 refine wpQuiet_nil ?_
 refine wpS_nil ?_
 refine then_normal ?_
 refine wp_ret ?_
 refine bodyPost_ret (results_tmp rfl _ _ _) rfl ?_
 exact hself_fin (s' := s) HD.out (Mem.only (M := [_, _, _, _, _]) HM13.out [2, 0, 1, 1, 1] rfl)
theorem hear_d (d : Nat) (s : DS) (pv pq po pc : Nat) (n i h : Int) (hs : LOk s) (hm : mayK ⟨n, i, h⟩ = true) : Does Tryz.prog 37 #[.pointer (some ⟨d, 0, none⟩), cl3 n i h] (LP d s pv pq po pc) (.int .i64 (hearD s ⟨n, i, h⟩).2) (LP d (hearD s ⟨n, i, h⟩).1 pv pq po pc) := by
 by_cases hn : n = s.self
 ·exact hear_self d s pv pq po pc n i h hs hm hn
 ·cases hh : heardB s.V ⟨n, i, h⟩ with
  | true => exact hear_other d s pv pq po pc n i h hs hm hn hh
  | false => exact hear_none d s pv pq po pc n i h hs hm hn hh
def worsenD (s : DS) (node was now : Int) : DS := if (ofV s.V node).h = was then (hearD s ⟨(ofV s.V node).n, (ofV s.V node).i, now⟩).1 else s
theorem may_worse {V : Vw} (hV : VwOk V) {node was now : Int} (hw : 1 ≤ was ∧ was ≤ 4) (hn : 1 ≤ now ∧ now ≤ 4) (h : (ofV V node).h = was) : mayK ⟨(ofV V node).n, (ofV V node).i, now⟩ = true := by
 unfold ofV at h ⊢
 split at h
 ·rename_i hr
  rw [if_pos hr]
  have := hV node.toNat (by omega)
  simp only [mayK, mayB, decide_eq_true_eq]
  dsimp only at h ⊢
  omega
 ·exfalso
  rename_i hr
  have : (Cl.zero).h = 0 := rfl
  omega
theorem vw_of {b : Nat} {V : Vw} {L : List At} {H : Nat → Prop} {w W : World} (h : Mem L H w W) (k : Nat) (hk : L[k]? = some (viewT b V)) : VwOk V := h.have k hk fun _ h => h.1.2
set_option maxHeartbeats 4000000 in
set_option maxRecDepth 100000 in
theorem worsen_yes (d : Nat) (s : DS) (pv pq po pc : Nat) (node was now : Int) (hs : LOk s) (hwas : 1 ≤ was ∧ was ≤ 4) (hnow : 1 ≤ now ∧ now ≤ 4) (hw : (ofV s.V node).h = was) : Does Tryz.prog 98 #[.pointer (some ⟨d, 0, none⟩), .int .i64 node, .int .i64 was, .int .i64 now] [lanT d s pv pq po pc, viewT pv s.V, queT pq s.Q, ordT po s.self s.O, clkT pc s.C] (.tuple #[]) (LP d (worsenD s node was now) pv pq po pc) := by
 intro w H hp
 have HM0 := Lib.hid (mem_refl hp)
 clear hp
 obtain ⟨c, hc⟩ : ∃ c, ofV s.V node = c := ⟨_, rfl⟩
 have HV : Hid (Does Tryz.prog 59 #[.pointer (some ⟨pv, 0, none⟩), .int .i64 node] [viewT pv s.V] (cl3 c.n c.i c.h) [viewT pv s.V]) := Lib.hid (by have := view_of pv s.V node; rw [hc] at this; exact this)
 have g1 : (c.h == was) = true := by rw [← hc]; rw [beq_iff_eq]; exact hw
 have HD : Hid (worsenD s node was now = (hearD s ⟨c.n, c.i, now⟩).1) := Lib.hid (by unfold worsenD; rw [if_pos hw]; rw [hc])
 have hmay := may_worse (vw_of HM0.out 1 rfl) hwas hnow hw
 rw [hc] at hmay
 have HH := Lib.hid (hear_d d s pv pq po pc c.n c.i now hs hmay)
 clear hmay
 clear hw hs hwas hnow hc
 go_enter Tryz.func98, Tryz.ntmps98
 refine wp_seq ?_
 refine wp_region_N [(0, 1), (1, 1), (2, 1), (3, 1), (4, 1), (5, 3), (6, 3), (7, 3)] (by kernel_rfl) ?_
 have Cd := Mem.cell HM0.out 0 rfl
 refine wS1 [0, 1, 2, 3, 4] ?_
 repeat (go_big_quiet_step (fail))
 refine wpQuiet_nil ?_
 clear Cd
 refine wpS_does2 (i := 5) (d := some 14) (rem := [_, _, _, _]) (out := [_, _, _, _, _]) rfl (by rfl) rfl Tryz.call59 (HV.out) rfl rfl HM0.out [1] rfl covS_nil rfl rfl ?_
 rintro W2 hm1 -
 have HM3 := Lib.hid hm1
 clear hm1
 simp only [Act.put, pA, pB, pC]
 refine wpS_alloc (i := 6) (dd := 8) (z := .agg #[.int .i64 0, .int .i64 0, .int .i64 0]) (cs := #[.int .i64 0, .int .i64 0, .int .i64 0]) rfl (by rfl) rfl (by kernel_rfl) rfl HM3.out covS_nil rfl ?_
 rintro b6 W5 hm4 -
 have HM7 := Lib.hid hm4
 clear hm4
 simp only [Act.put, pA, pB, pC]
 refine wpS_storeA (i := 7) (L2 := [_, _, _, _, _]) (cs' := [_, _, _]) rfl (by rfl) rfl rfl rfl (by kernel_rfl) (by rfl) HM7.out 0 rfl rfl rfl rfl covS_nil rfl ?_
 rintro W9 hm8 -
 have HM10 := Lib.hid hm8
 clear hm8
 refine wpS_nil ?_
 refine then_normal ?_
 refine wp_seq ?_
 refine wp_region_N [(0, 1), (1, 1), (2, 1), (3, 1)] (by kernel_rfl) ?_
 have Cb8 := Mem.cell HM10.out 0 rfl
 refine wS1 [0, 1, 2, 3] ?_
 repeat (go_big_quiet_step (fail))
 refine wpQuiet_nil ?_
 clear Cb8
 refine wpS_nil ?_
 refine then_normal ?_
 refine wp_cond_true rfl ?_
 refine wp_seq ?_
 refine wp_region_N [(0, 1), (1, 1), (2, 3)] (by kernel_rfl) ?_
 refine wS1 [0, 1] ?_
 repeat (go_big_quiet_step (fail))
 refine wpQuiet_nil ?_
 refine wpS_store1 (i := 2) (v := .int _ _) (L2 := [_, _, _, _, _]) (cs' := [_, _, _]) rfl (by rfl) rfl rfl rfl rfl (by kernel_rfl) rfl HM10.out 0 rfl rfl rfl rfl covS_nil rfl ?_
 rintro W12 hm11 -
 have HM13 := Lib.hid hm11
 clear hm11
 refine wpS_nil ?_
 refine then_normal ?_
 refine wp_region_N [(0, 1), (1, 1), (2, 3)] (by kernel_rfl) ?_
 have Cb8 := Mem.cell HM13.out 0 rfl
 refine wS1 [0, 1] ?_
 repeat (go_big_quiet_step (fail))
 refine wpQuiet_nil ?_
 clear Cb8
 refine wpS_does2 (i := 2) (d := some 23) (rem := [_]) (out := [_, _, _, _, _, _]) rfl (by rfl) rfl Tryz.call37 (HH.out) rfl rfl HM13.out [2, 1, 1, 1, 1] rfl covS_nil rfl rfl ?_
 rintro W15 hm14 -
 have HM16 := Lib.hid hm14
 clear hm14
 simp only [Act.put, pA, pB, pC]
 refine wpS_nil ?_
 refine bodyPost_end (results_none rfl _ _ _) rfl ?_
 refine does_ret (Mem.only (M := [_, _, _, _, _]) HM16.out [0, 0, 0, 0, 0] rfl) rfl ?_
 rw [HD.out]
 try rfl
set_option maxHeartbeats 4000000 in
set_option maxRecDepth 100000 in
theorem worsen_no (d : Nat) (s : DS) (pv pq po pc : Nat) (node was now : Int) (hs : LOk s) (hwas : 1 ≤ was ∧ was ≤ 4) (hnow : 1 ≤ now ∧ now ≤ 4) (hw : ¬ (ofV s.V node).h = was) : Does Tryz.prog 98 #[.pointer (some ⟨d, 0, none⟩), .int .i64 node, .int .i64 was, .int .i64 now] [lanT d s pv pq po pc, viewT pv s.V, queT pq s.Q, ordT po s.self s.O, clkT pc s.C] (.tuple #[]) (LP d (worsenD s node was now) pv pq po pc) := by
 intro w H hp
 have HM0 := Lib.hid (mem_refl hp)
 clear hp
 obtain ⟨c, hc⟩ : ∃ c, ofV s.V node = c := ⟨_, rfl⟩
 have HV : Hid (Does Tryz.prog 59 #[.pointer (some ⟨pv, 0, none⟩), .int .i64 node] [viewT pv s.V] (cl3 c.n c.i c.h) [viewT pv s.V]) := Lib.hid (by have := view_of pv s.V node; rw [hc] at this; exact this)
 have g1 : (c.h == was) = false := by rw [← hc]; rw [beq_eq_false_iff_ne]; exact hw
 have HD : Hid (worsenD s node was now = s) := Lib.hid (by unfold worsenD; rw [if_neg hw])
 clear hw hs hwas hnow hc
 go_enter Tryz.func98, Tryz.ntmps98
 refine wp_seq ?_
 refine wp_region_N [(0, 1), (1, 1), (2, 1), (3, 1), (4, 1), (5, 3), (6, 3), (7, 3)] (by kernel_rfl) ?_
 have Cd := Mem.cell HM0.out 0 rfl
 refine wS1 [0, 1, 2, 3, 4] ?_
 repeat (go_big_quiet_step (fail))
 refine wpQuiet_nil ?_
 clear Cd
 refine wpS_does2 (i := 5) (d := some 14) (rem := [_, _, _, _]) (out := [_, _, _, _, _]) rfl (by rfl) rfl Tryz.call59 (HV.out) rfl rfl HM0.out [1] rfl covS_nil rfl rfl ?_
 rintro W2 hm1 -
 have HM3 := Lib.hid hm1
 clear hm1
 simp only [Act.put, pA, pB, pC]
 refine wpS_alloc (i := 6) (dd := 8) (z := .agg #[.int .i64 0, .int .i64 0, .int .i64 0]) (cs := #[.int .i64 0, .int .i64 0, .int .i64 0]) rfl (by rfl) rfl (by kernel_rfl) rfl HM3.out covS_nil rfl ?_
 rintro b6 W5 hm4 -
 have HM7 := Lib.hid hm4
 clear hm4
 simp only [Act.put, pA, pB, pC]
 refine wpS_storeA (i := 7) (L2 := [_, _, _, _, _]) (cs' := [_, _, _]) rfl (by rfl) rfl rfl rfl (by kernel_rfl) (by rfl) HM7.out 0 rfl rfl rfl rfl covS_nil rfl ?_
 rintro W9 hm8 -
 have HM10 := Lib.hid hm8
 clear hm8
 refine wpS_nil ?_
 refine then_normal ?_
 refine wp_seq ?_
 refine wp_region_N [(0, 1), (1, 1), (2, 1), (3, 1)] (by kernel_rfl) ?_
 have Cb8 := Mem.cell HM10.out 0 rfl
 refine wS1 [0, 1, 2, 3] ?_
 repeat (go_big_quiet_step (fail))
 refine wpQuiet_nil ?_
 clear Cb8
 refine wpS_nil ?_
 refine then_normal ?_
 refine wp_cond_false rfl ?_
 refine wp_skip ?_
 refine bodyPost_end (results_none rfl _ _ _) rfl ?_
 refine does_ret (Mem.only (M := [_, _, _, _, _]) HM10.out [2, 1, 1, 1, 1] rfl) rfl ?_
 rw [HD.out]
 try rfl
theorem worsen_d (d : Nat) (s : DS) (pv pq po pc : Nat) (node was now : Int) (hs : LOk s) (hwas : 1 ≤ was ∧ was ≤ 4) (hnow : 1 ≤ now ∧ now ≤ 4) : Does Tryz.prog 98 #[.pointer (some ⟨d, 0, none⟩), .int .i64 node, .int .i64 was, .int .i64 now] (LP d s pv pq po pc) (.tuple #[]) (LP d (worsenD s node was now) pv pq po pc) := by
 by_cases hw : (ofV s.V node).h = was
 ·exact worsen_yes d s pv pq po pc node was now hs hwas hnow hw
 ·exact worsen_no d s pv pq po pc node was now hs hwas hnow hw
set_option maxHeartbeats 4000000 in
set_option maxRecDepth 100000 in
theorem doubt_d (d : Nat) (s : DS) (pv pq po pc : Nat) (node : Int) (hs : LOk s) : Does Tryz.prog 76 #[.pointer (some ⟨d, 0, none⟩), .int .i64 node] [lanT d s pv pq po pc, viewT pv s.V, queT pq s.Q, ordT po s.self s.O, clkT pc s.C] (.tuple #[]) (LP d { worsenD s node 1 2 with asked := -1 } pv pq po pc) := by
 intro w H hp
 have HM0 := Lib.hid (mem_refl hp)
 clear hp
 have HW := Lib.hid (worsen_d d s pv pq po pc node 1 2 hs (by omega) (by omega))
 clear hs
 go_enter Tryz.func76, Tryz.ntmps76
 refine wp_seq ?_
 refine wp_region_N [(0, 1), (1, 1), (2, 3)] (by kernel_rfl) ?_
 refine wS1 [0, 1] ?_
 repeat (go_big_quiet_step (fail))
 refine wpQuiet_nil ?_
 refine wpS_does4 (i := 2) (d := some 6) (rem := []) (out := [_, _, _, _, _]) rfl (by rfl) rfl Tryz.call98 (HW.out) rfl rfl rfl rfl HM0.out [0, 0, 0, 0, 0] rfl covS_nil rfl rfl ?_
 rintro W2 hm1 -
 have HM3 := Lib.hid hm1
 clear hm1
 simp only [Act.put, pA, pB, pC]
 refine wpS_nil ?_
 refine then_normal ?_
 refine wp_region_N [(0, 1), (1, 1), (2, 1), (3, 3)] (by kernel_rfl) ?_
 refine wS1 [0, 1, 2] ?_
 repeat (go_big_quiet_step (fail))
 refine wpQuiet_nil ?_
 refine wpS_store1 (i := 3) (v := .int _ _) (L2 := [_, _, _, _]) (cs' := [_, _, _, _, _, _, _, _, _, _, _]) rfl (by rfl) rfl rfl rfl rfl (by kernel_rfl) rfl HM3.out 0 rfl rfl rfl rfl covS_nil rfl ?_
 rintro W5 hm4 -
 have HM6 := Lib.hid hm4
 clear hm4
 refine wpS_nil ?_
 refine bodyPost_end (results_none rfl _ _ _) rfl ?_
 exact does_ret (Mem.only (M := [_, _, _, _, _]) HM6.out [0, 0, 0, 0, 0] rfl) rfl rfl
set_option maxHeartbeats 4000000 in
set_option maxRecDepth 100000 in
theorem bury_d (d : Nat) (s : DS) (pv pq po pc : Nat) (node : Int) (hs : LOk s) : Does Tryz.prog 77 #[.pointer (some ⟨d, 0, none⟩), .int .i64 node] [lanT d s pv pq po pc, viewT pv s.V, queT pq s.Q, ordT po s.self s.O, clkT pc s.C] (.tuple #[]) (LP d (worsenD s node 2 3) pv pq po pc) := by
 intro w H hp
 have HM0 := Lib.hid (mem_refl hp)
 clear hp
 have HW := Lib.hid (worsen_d d s pv pq po pc node 2 3 hs (by omega) (by omega))
 clear hs
 go_enter Tryz.func77, Tryz.ntmps77
 refine wp_region_N [(0, 1), (1, 1), (2, 3)] (by kernel_rfl) ?_
 refine wS1 [0, 1] ?_
 repeat (go_big_quiet_step (fail))
 refine wpQuiet_nil ?_
 refine wpS_does4 (i := 2) (d := some 6) (rem := []) (out := [_, _, _, _, _]) rfl (by rfl) rfl Tryz.call98 (HW.out) rfl rfl rfl rfl HM0.out [0, 0, 0, 0, 0] rfl covS_nil rfl rfl ?_
 rintro W2 hm1 -
 have HM3 := Lib.hid hm1
 clear hm1
 simp only [Act.put, pA, pB, pC]
 refine wpS_nil ?_
 refine bodyPost_end (results_none rfl _ _ _) rfl ?_
 exact does_ret (Mem.only (M := [_, _, _, _, _]) HM3.out [0, 0, 0, 0, 0] rfl) rfl rfl
theorem ofV_at {V : Vw} {n : Int} (h : 0 ≤ n ∧ n < 8) : ofV V n = ⟨n, (V n.toNat).i, (V n.toNat).h⟩ := by unfold ofV; rw [if_pos h]
set_option maxHeartbeats 4000000 in
set_option maxRecDepth 100000 in
theorem hearSpeak_gone (d : Nat) (s : DS) (pv pq po pc : Nat) (frm : Int) (hs : LOk s) (hf : 0 ≤ frm ∧ frm < 8) (hg : (ofV s.V frm).h = 4) : Does Tryz.prog 44 #[.pointer (some ⟨d, 0, none⟩), .int .i64 frm] [lanT d s pv pq po pc, viewT pv s.V, queT pq s.Q, ordT po s.self s.O, clkT pc s.C] (.tuple #[]) (LP d (fromD s frm) pv pq po pc) := by
 intro w H hp
 have HM0 := Lib.hid (mem_refl hp)
 clear hp
 have hv := vw_of HM0.out 1 rfl
 have hof := ofV_at (V := s.V) hf
 obtain ⟨ci, hci⟩ : ∃ c, (ofV s.V frm).i = c := ⟨_, rfl⟩
 obtain ⟨ch, hch⟩ : ∃ c, (ofV s.V frm).h = c := ⟨_, rfl⟩
 have hcn : (ofV s.V frm).n = frm := by rw [hof]
 have HV : Hid (Does Tryz.prog 59 #[.pointer (some ⟨pv, 0, none⟩), .int .i64 frm] [viewT pv s.V] (cl3 frm ci ch) [viewT pv s.V]) := Lib.hid (by have := view_of pv s.V frm; rw [hcn, hci, hch] at this; exact this)
 have g1 : (ch != 4) = false := by rw [← hch]; rw [bne_eq_false_iff_eq]; exact hg
 have HD : Hid (fromD s frm = s) := Lib.hid (by unfold fromD; rw [if_pos hg])
 clear hg hs hf hv hof hci hch hcn
 go_enter Tryz.func44, Tryz.ntmps44
 refine wp_seq ?_
 refine wp_region_N [(0, 1), (1, 1), (2, 1), (3, 1), (4, 1), (5, 3), (6, 3), (7, 3)] (by kernel_rfl) ?_
 have Cd := Mem.cell HM0.out 0 rfl
 refine wS1 [0, 1, 2, 3, 4] ?_
 repeat (go_big_quiet_step (fail))
 refine wpQuiet_nil ?_
 clear Cd
 refine wpS_does2 (i := 5) (d := some 10) (rem := [_, _, _, _]) (out := [_, _, _, _, _]) rfl (by rfl) rfl Tryz.call59 (HV.out) rfl rfl HM0.out [1] rfl covS_nil rfl rfl ?_
 rintro W2 hm1 -
 have HM3 := Lib.hid hm1
 clear hm1
 simp only [Act.put, pA, pB, pC]
 refine wpS_alloc (i := 6) (dd := 4) (z := .agg #[.int .i64 0, .int .i64 0, .int .i64 0]) (cs := #[.int .i64 0, .int .i64 0, .int .i64 0]) rfl (by rfl) rfl (by kernel_rfl) rfl HM3.out covS_nil rfl ?_
 rintro b6 W5 hm4 -
 have HM7 := Lib.hid hm4
 clear hm4
 simp only [Act.put, pA, pB, pC]
 refine wpS_storeA (i := 7) (L2 := [_, _, _, _, _]) (cs' := [_, _, _]) rfl (by rfl) rfl rfl rfl (by kernel_rfl) (by rfl) HM7.out 0 rfl rfl rfl rfl covS_nil rfl ?_
 rintro W9 hm8 -
 have HM10 := Lib.hid hm8
 clear hm8
 refine wpS_nil ?_
 refine then_normal ?_
 refine wp_seq ?_
 refine wp_region_N [(0, 1), (1, 1), (2, 1)] (by kernel_rfl) ?_
 have Cb4 := Mem.cell HM10.out 0 rfl
 refine wS1 [0, 1, 2] ?_
 repeat (go_big_quiet_step (fail))
 refine wpQuiet_nil ?_
 clear Cb4
 refine wpS_nil ?_
 refine then_normal ?_
 refine wp_cond_false rfl ?_
 refine wp_skip ?_
 refine bodyPost_end (results_none rfl _ _ _) rfl ?_
 refine does_ret (Mem.only (M := [_, _, _, _, _]) HM10.out [2, 1, 1, 1, 1] rfl) rfl ?_
 rw [HD.out]
 try rfl
set_option maxHeartbeats 4000000 in
set_option maxRecDepth 100000 in
theorem hearSpeak_here (d : Nat) (s : DS) (pv pq po pc : Nat) (frm : Int) (hs : LOk s) (hf : 0 ≤ frm ∧ frm < 8) (hg : ¬ (ofV s.V frm).h = 4) : Does Tryz.prog 44 #[.pointer (some ⟨d, 0, none⟩), .int .i64 frm] [lanT d s pv pq po pc, viewT pv s.V, queT pq s.Q, ordT po s.self s.O, clkT pc s.C] (.tuple #[]) (LP d (fromD s frm) pv pq po pc) := by
 intro w H hp
 have HM0 := Lib.hid (mem_refl hp)
 clear hp
 have hv := vw_of HM0.out 1 rfl
 have hof := ofV_at (V := s.V) hf
 obtain ⟨ci, hci⟩ : ∃ c, (ofV s.V frm).i = c := ⟨_, rfl⟩
 obtain ⟨ch, hch⟩ : ∃ c, (ofV s.V frm).h = c := ⟨_, rfl⟩
 have hcn : (ofV s.V frm).n = frm := by rw [hof]
 have HV : Hid (Does Tryz.prog 59 #[.pointer (some ⟨pv, 0, none⟩), .int .i64 frm] [viewT pv s.V] (cl3 frm ci ch) [viewT pv s.V]) := Lib.hid (by have := view_of pv s.V frm; rw [hcn, hci, hch] at this; exact this)
 have g1 : (ch != 4) = true := by rw [← hch]; rw [bne_iff_ne]; exact hg
 have HD : Hid (fromD s frm = (hearD s ⟨frm, ci, 1⟩).1) := Lib.hid (by unfold fromD; rw [if_neg hg]; rw [hci])
 have hmay : mayK ⟨frm, ci, 1⟩ = true := by
  have h1 := hv frm.toNat (by omega)
  have h2 : ci = (s.V frm.toNat).i := by rw [← hci, hof]
  simp only [mayK, mayB, decide_eq_true_eq]
  omega
 have HH := Lib.hid (hear_d d s pv pq po pc frm ci 1 hs hmay)
 clear hmay
 clear hg hs hf hv hof hci hch hcn
 go_enter Tryz.func44, Tryz.ntmps44
 refine wp_seq ?_
 refine wp_region_N [(0, 1), (1, 1), (2, 1), (3, 1), (4, 1), (5, 3), (6, 3), (7, 3)] (by kernel_rfl) ?_
 have Cd := Mem.cell HM0.out 0 rfl
 refine wS1 [0, 1, 2, 3, 4] ?_
 repeat (go_big_quiet_step (fail))
 refine wpQuiet_nil ?_
 clear Cd
 refine wpS_does2 (i := 5) (d := some 10) (rem := [_, _, _, _]) (out := [_, _, _, _, _]) rfl (by rfl) rfl Tryz.call59 (HV.out) rfl rfl HM0.out [1] rfl covS_nil rfl rfl ?_
 rintro W2 hm1 -
 have HM3 := Lib.hid hm1
 clear hm1
 simp only [Act.put, pA, pB, pC]
 refine wpS_alloc (i := 6) (dd := 4) (z := .agg #[.int .i64 0, .int .i64 0, .int .i64 0]) (cs := #[.int .i64 0, .int .i64 0, .int .i64 0]) rfl (by rfl) rfl (by kernel_rfl) rfl HM3.out covS_nil rfl ?_
 rintro b6 W5 hm4 -
 have HM7 := Lib.hid hm4
 clear hm4
 simp only [Act.put, pA, pB, pC]
 refine wpS_storeA (i := 7) (L2 := [_, _, _, _, _]) (cs' := [_, _, _]) rfl (by rfl) rfl rfl rfl (by kernel_rfl) (by rfl) HM7.out 0 rfl rfl rfl rfl covS_nil rfl ?_
 rintro W9 hm8 -
 have HM10 := Lib.hid hm8
 clear hm8
 refine wpS_nil ?_
 refine then_normal ?_
 refine wp_seq ?_
 refine wp_region_N [(0, 1), (1, 1), (2, 1)] (by kernel_rfl) ?_
 have Cb4 := Mem.cell HM10.out 0 rfl
 refine wS1 [0, 1, 2] ?_
 repeat (go_big_quiet_step (fail))
 refine wpQuiet_nil ?_
 clear Cb4
 refine wpS_nil ?_
 refine then_normal ?_
 refine wp_cond_true rfl ?_
 refine wp_seq ?_
 refine wp_region_N [(0, 1), (1, 3)] (by kernel_rfl) ?_
 refine wS1 [0] ?_
 repeat (go_big_quiet_step (fail))
 refine wpQuiet_nil ?_
 refine wpS_store1 (i := 1) (v := .int _ _) (L2 := [_, _, _, _, _]) (cs' := [_, _, _]) rfl (by rfl) rfl rfl rfl rfl (by kernel_rfl) rfl HM10.out 0 rfl rfl rfl rfl covS_nil rfl ?_
 rintro W12 hm11 -
 have HM13 := Lib.hid hm11
 clear hm11
 refine wpS_nil ?_
 refine then_normal ?_
 refine wp_region_N [(0, 1), (1, 1), (2, 3)] (by kernel_rfl) ?_
 have Cb4 := Mem.cell HM13.out 0 rfl
 refine wS1 [0, 1] ?_
 repeat (go_big_quiet_step (fail))
 refine wpQuiet_nil ?_
 clear Cb4
 refine wpS_does2 (i := 2) (d := some 17) (rem := [_]) (out := [_, _, _, _, _, _]) rfl (by rfl) rfl Tryz.call37 (HH.out) rfl rfl HM13.out [2, 1, 1, 1, 1] rfl covS_nil rfl rfl ?_
 rintro W15 hm14 -
 have HM16 := Lib.hid hm14
 clear hm14
 simp only [Act.put, pA, pB, pC]
 refine wpS_nil ?_
 refine bodyPost_end (results_none rfl _ _ _) rfl ?_
 refine does_ret (Mem.only (M := [_, _, _, _, _]) HM16.out [0, 0, 0, 0, 0] rfl) rfl ?_
 rw [HD.out]
 try rfl
theorem hearSpeak_d (d : Nat) (s : DS) (pv pq po pc : Nat) (frm : Int) (hs : LOk s) (hf : 0 ≤ frm ∧ frm < 8) : Does Tryz.prog 44 #[.pointer (some ⟨d, 0, none⟩), .int .i64 frm] (LP d s pv pq po pc) (.tuple #[]) (LP d (fromD s frm) pv pq po pc) := by
 by_cases hg : (ofV s.V frm).h = 4
 ·exact hearSpeak_gone d s pv pq po pc frm hs hf hg
 ·exact hearSpeak_here d s pv pq po pc frm hs hf hg
end Go.Proofs.YtjbihgfdgaiecaaGreat

/- The landed detector: the claims of a message. -/
namespace Go.Proofs.YtjbihgfdgaiecaaGreat
open Go Go.RowKit Go.BigFrame
theorem hear_nothing {s : DS} (hs : LOk s) (hV : VwOk s.V) {c : Cl} (hm : mayK c = true) (hn : nothingK c = true) : hearD s c = (s, 0) := by
 have h1 := hs.self
 have h2 := hs.inc
 have hz : c.i = 0 ∧ c.h = 0 := by simpa [nothingK, nothingB] using hn
 unfold hearD
 by_cases hself : c.n = s.self
 ·have hE : refE s.self s.inc c.n c.i c.h = 0 := by
   unfold refE
   rw [hz.1, hz.2]
   split
   ·rename_i hh
    exact absurd ⟨h1, h2, by omega, .inl ⟨rfl, rfl⟩⟩ hh
   ·rw [if_pos (.inr (.inl (by omega)))]
  have hN : refN s.self s.inc c.n c.i c.h = s.inc := by
   unfold refN
   rw [hz.1, hz.2]
   split
   ·rename_i hh
    exact absurd ⟨h1, h2, by omega, .inl ⟨rfl, rfl⟩⟩ hh
   ·rw [if_pos (.inr (.inl (by omega)))]
  rw [if_pos hself, hE, hN, if_neg (by omega), if_neg (by omega)]
 ·have hb : heardB s.V c = false := by
   unfold heardB
   have := nothing_low hV hm hn
   rw [decide_eq_false (by omega), Bool.and_false]
  rw [if_neg hself, hb]
  rfl
theorem heardStep_may {x : DS × Nat} (hs : LOk x.1) (hV : VwOk x.1.V) {c : Cl} (hm : mayK c = true) (hl : x.2 < 4) : heardStep x c = ((hearD x.1 c).1, x.2 + 1) := by
 unfold heardStep
 rw [if_pos ⟨hm, hl⟩]
 by_cases hn : nothingK c = true
 ·rw [if_pos hn, hear_nothing hs hV hm hn]
 ·rw [if_neg hn]
theorem heardStep_not {x : DS × Nat} {c : Cl} (h : mayK c = false) : heardStep x c = x := by unfold heardStep; rw [if_neg (by simp [h])]
theorem heard_full : ∀ (l : List Cl) {x : DS × Nat}, x.2 = 4 → l.foldl heardStep x = x
 | [], _, _ => rfl
 | c :: l, x, h => by
  have : heardStep x c = x := by unfold heardStep; rw [if_neg (by omega)]
  rw [List.foldl_cons, this, heard_full l h]
def stepsH (cs : List Cl) (s : DS) (k : Nat) : DS × Nat := (cs.take k).foldl heardStep (s, 0)
theorem stepsH_zero (cs : List Cl) (s : DS) : stepsH cs s 0 = (s, 0) := by simp [stepsH]
theorem stepsH_succ {cs : List Cl} {s : DS} {k : Nat} {y : Cl} (h : cs[k]? = some y) : stepsH cs s (k + 1) = heardStep (stepsH cs s k) y := by
 unfold stepsH
 rw [List.take_add_one, h, Option.toList_some, List.foldl_append]
 rfl
theorem stepsH_end (cs : List Cl) (s : DS) {k : Nat} (h : cs.length ≤ k) : (stepsH cs s k).1 = heardM s cs := by
 unfold stepsH
 rw [List.take_of_length_le h, heardM_steps]
theorem stepsH_full {cs : List Cl} {s : DS} {k : Nat} (h : (stepsH cs s k).2 = 4) : (stepsH cs s k).1 = heardM s cs := by
 rw [← heardM_steps]
 conv => rhs; rw [← List.take_append_drop k cs, List.foldl_append]
 have h2 : ((cs.take k).foldl heardStep (s, 0)).2 = 4 := h
 rw [heard_full _ h2]
 rfl
theorem stepsH_le (cs : List Cl) (s : DS) (k : Nat) : (stepsH cs s k).2 ≤ 4 := heardStep_le _ _ (by simp)
set_option maxHeartbeats 4000000 in
set_option maxRecDepth 100000 in
theorem hearFirst_d (d : Nat) (s : DS) (pv pq po pc : Nat) (R : At) (v : Value) (cs : List Cl) (hR : ∀ W H, R.p W H → RowAt elemCl W v cs) (hl : cs.length ≤ 1000) (hs : LOk s) : Does Tryz.prog 43 #[.pointer (some ⟨d, 0, none⟩), v] (R :: LP d s pv pq po pc) (.tuple #[]) (R :: LP d (heardM s cs) pv pq po pc) := by
 intro w H hp
 have HM0 := Lib.hid (mem_refl hp)
 clear hp
 obtain ⟨p, cap, rfl, -⟩ := (HM0.out.row 0 rfl hR).form
 go_enter Tryz.func43, Tryz.ntmps43
 refine wp_seq ?_
 refine wp_region_N [(0, 1)] (by kernel_rfl) ?_
 refine wS1 [0] ?_
 repeat (go_big_quiet_step (fail))
 refine wpQuiet_nil ?_
 refine wpS_nil ?_
 refine then_normal ?_
 refine wp_seq ?_
 refine wp_region_N [(0, 1), (1, 1), (2, 1)] (by kernel_rfl) ?_
 refine wS1 [0, 1, 2] ?_
 repeat (go_big_quiet_step (fail))
 refine wpQuiet_nil ?_
 refine wpS_nil ?_
 refine then_normal ?_
 refine wp_block ?_
 refine wp_loop_F [4, 6, 9, 10, 11, 12, 13, 14, 15, 16, 17, 18, 19, 20, 21, 22] (fun n vs W' => ∃ k : Nat, n = cs.length - k ∧ vs 9 = .int .i64 (k : Int) ∧ vs 4 = .int .i64 ((stepsH cs s k).2 : Int) ∧ k ≤ cs.length ∧ LOk (stepsH cs s k).1 ∧ Mem (R :: LP d (stepsH cs s k).1 pv pq po pc) H w W') (n0 := cs.length) ?_ ?_
 ·refine ⟨0, rfl, rfl, ?_, Nat.zero_le _, ?_, ?_⟩
  ·rw [stepsH_zero]
   rfl
  ·rw [stepsH_zero]
   exact hs
  ·rw [stepsH_zero]
   exact (Mem.only (M := [_, _, _, _, _, _]) HM0.out [0, 0, 0, 0, 0, 0] rfl)
 rintro n vs W' ⟨k, rfl, e9, e4, hk, hok, hm⟩
 simp only [putAll, List.map_cons, List.map_nil, Act.put, List.setIfInBounds_toArray, List.set_cons_succ, List.set_cons_zero]
 rw [e9, e4]
 clear e9 e4
 obtain ⟨x, hx⟩ : ∃ x, stepsH cs s k = x := ⟨_, rfl⟩
 have hx4 := stepsH_le cs s k
 rw [hx] at hok hm hx4
 rw [hx]
 have hV := Lib.hid (vw_of hm 2 rfl)
 have HM1 := Lib.hid hm
 clear hm
 refine wp_seq ?_
 refine wp_region_N [(0, 1)] (by kernel_rfl) ?_
 refine wS1 [0] ?_
 repeat (go_big_quiet_step (fail))
 refine wpQuiet_nil ?_
 refine wpS_nil ?_
 refine then_normal ?_
 refine wp_seq ?_
 refine wp_cond_split rfl (fun h2 => ?_) (fun h2 => ?_)
 ·have hk1 : k < cs.length := by simpa using h2
  obtain ⟨⟨y1, y2, y3⟩, hy⟩ : ∃ y, cs[k]? = some y := ⟨_, List.getElem?_eq_getElem hk1⟩
  clear h2
  refine wp_skip ?_
  refine then_normal ?_
  refine wp_seq ?_
  refine wp_block ?_
  refine wp_seq ?_
  refine wp_region_N [(0, 1), (1, 1), (2, 3), (3, 3)] (by kernel_rfl) ?_
  refine wpS_index (E := elemCl) (i := 0) (d := some 11) rfl (by rfl) rfl rfl rfl (HM1.out.row 0 rfl hR) (hy) rfl ?_
  intro eb3 eo4 hc5
  simp only [Act.put, pA, pB, pC]
  refine wpS_loadA (i := 1) (d := some 12) (cells := [.int .i64 y1, .int .i64 y2, .int .i64 y3]) rfl (by rfl) rfl rfl hc5 Tryz.underlying30 rfl (by kernel_rfl) rfl ?_
  simp only [Act.put, pA, pB, pC]
  refine wpS_alloc (i := 2) (dd := 6) (z := .agg #[.int .i64 0, .int .i64 0, .int .i64 0]) (cs := #[.int .i64 0, .int .i64 0, .int .i64 0]) rfl (by rfl) rfl (by kernel_rfl) rfl HM1.out covS_nil rfl ?_
  rintro b8 W7 hm6 -
  have HM9 := Lib.hid hm6
  clear hm6
  simp only [Act.put, pA, pB, pC]
  refine wpS_storeA (i := 3) (L2 := [_, _, _, _, _, _]) (cs' := [_, _, _]) rfl (by rfl) rfl rfl rfl (by kernel_rfl) (by rfl) HM9.out 0 rfl rfl rfl rfl covS_nil rfl ?_
  rintro W11 hm10 -
  have HM12 := Lib.hid hm10
  clear hm10
  refine wpS_nil ?_
  refine then_normal ?_
  refine wp_seq ?_
  refine wp_seq ?_
  refine wp_region_N [(0, 1), (1, 1)] (by kernel_rfl) ?_
  refine wS1 [0, 1] ?_
  repeat (go_big_quiet_step (fail))
  refine wpQuiet_nil ?_
  refine wpS_nil ?_
  refine then_normal ?_
  refine wp_cond_split rfl (fun h13 => ?_) (fun h13 => ?_)
  ·have h4 : Hid (x.2 = 4) := Lib.hid (by have : (x.2 : Int) = 4 := (by simpa using h13); omega)
   clear h13
   refine wp_ret ?_
   refine then_ret (block_ret (then_ret (then_ret (block_ret ?_))))
   refine bodyPost_ret (results_none rfl _ _ _) rfl ?_
   have hfull := stepsH_full (cs := cs) (s := s) (k := k) (by rw [hx]; exact h4.out)
   rw [hx] at hfull
   refine does_ret (Mem.only (M := [_, _, _, _, _, _]) HM12.out [1, 1, 1, 1, 1, 1] rfl) rfl ?_
   rw [← hfull]
   try rfl
  ·have hlt4 : Hid (x.2 < 4) := Lib.hid (by have : ¬ (x.2 : Int) = 4 := (by simpa using h13); omega)
   clear h13
   have HMay := Lib.hid (may_d y1 y2 y3)
   refine wp_skip ?_
   refine then_normal ?_
   refine wp_seq ?_
   refine wp_region_N [(0, 1), (1, 3)] (by kernel_rfl) ?_
   have Cb6 := Mem.cell HM12.out 0 rfl
   refine wS1 [0] ?_
   repeat (go_big_quiet_step (fail))
   refine wpQuiet_nil ?_
   clear Cb6
   refine wpS_does1 (i := 1) (d := some 16) (rem := [_, _, _, _, _, _, _]) (out := [_, _, _, _, _, _, _]) rfl (by rfl) rfl Tryz.call36 (HMay.out) rfl HM12.out [] rfl covS_nil rfl rfl ?_
   rintro W15 hm14 -
   have HM16 := Lib.hid hm14
   clear hm14
   simp only [Act.put, pA, pB, pC]
   refine wpS_nil ?_
   refine then_normal ?_
   refine wp_cond_split rfl (fun h17 => ?_) (fun h17 => ?_)
   ·have hmay := Lib.hid h17
    clear h17
    refine wp_seq ?_
    refine wp_region_N [(0, 1), (1, 1), (2, 3)] (by kernel_rfl) ?_
    have Cb6 := Mem.cell HM16.out 0 rfl
    refine wS1 [0, 1] ?_
    repeat (go_big_quiet_step (fail))
    refine wpQuiet_nil ?_
    clear Cb6
    refine wpS_does2 (i := 2) (d := some 19) (rem := [_, _]) (out := [_, _, _, _, _, _, _]) rfl (by rfl) rfl Tryz.call37 (hear_d d x.1 pv pq po pc y1 y2 y3 hok hmay.out) rfl rfl HM16.out [2, 2, 2, 2, 2] rfl covS_nil rfl rfl ?_
    rintro W19 hm18 -
    have HM20 := Lib.hid hm18
    clear hm18
    simp only [Act.put, pA, pB, pC]
    refine wpS_nil ?_
    refine then_normal ?_
    refine wp_region_N [(0, 1), (1, 1), (2, 1)] (by kernel_rfl) ?_
    refine wS1 [0, 1, 2] ?_
    repeat (go_big_quiet_step (fail))
    refine wpQuiet_nil ?_
    refine wpS_nil ?_
    refine block_normal ?_
    refine then_normal ?_
    refine wp_region_N [(0, 1), (1, 1)] (by kernel_rfl) ?_
    refine wS1 [0, 1] ?_
    repeat (go_big_quiet_step (fail))
    refine wpQuiet_nil ?_
    refine wpS_nil ?_
    refine then_normal ?_
    refine ⟨by kernel_rfl, ?_⟩
    have hst : stepsH cs s (k + 1) = ((hearD x.1 ⟨y1, y2, y3⟩).1, x.2 + 1) := by
     rw [stepsH_succ hy, hx]
     exact heardStep_may hok hV.out hmay.out hlt4.out
    refine ⟨cs.length - (k + 1), by omega, k + 1, rfl, ?_, ?_, hk1, ?_, ?_⟩
    ·rfl
    ·show Value.int .i64 _ = _
     rw [hst]
     try rfl
    ·rw [hst]
     exact lok_hear hok _
    ·rw [hst]
     exact (Mem.only (M := [_, _, _, _, _, _]) HM20.out [6, 0, 0, 0, 0, 0] rfl)
   ·have hmay := Lib.hid h17
    clear h17
    refine wp_skip ?_
    refine block_normal ?_
    refine then_normal ?_
    refine wp_region_N [(0, 1), (1, 1)] (by kernel_rfl) ?_
    refine wS1 [0, 1] ?_
    repeat (go_big_quiet_step (fail))
    refine wpQuiet_nil ?_
    refine wpS_nil ?_
    refine then_normal ?_
    refine ⟨by kernel_rfl, ?_⟩
    have hst : stepsH cs s (k + 1) = x := by
     rw [stepsH_succ hy, hx]
     exact heardStep_not hmay.out
    refine ⟨cs.length - (k + 1), by omega, k + 1, rfl, ?_, ?_, hk1, ?_, ?_⟩
    ·rfl
    ·show Value.int .i64 _ = _
     rw [hst]
     try rfl
    ·rw [hst]
     exact hok
    ·rw [hst]
     exact (Mem.only (M := [_, _, _, _, _, _]) HM16.out [1, 1, 1, 1, 1, 1] rfl)
 ·have hge := Lib.hid (show cs.length ≤ k by simpa using h2)
  clear h2
  refine wp_exit ?_
  refine then_exit (then_exit (block_exit ?_))
  refine bodyPost_end (results_none rfl _ _ _) rfl ?_
  have hfull := stepsH_end cs s (k := k) hge.out
  rw [hx] at hfull
  refine does_ret (Mem.only (M := [_, _, _, _, _, _]) HM1.out [0, 0, 0, 0, 0, 0] rfl) rfl ?_
  rw [← hfull]
  try rfl
end Go.Proofs.YtjbihgfdgaiecaaGreat

/- The landed detector: what a message bears; to send. -/
namespace Go.Proofs.YtjbihgfdgaiecaaGreat
open Go Go.RowKit Go.BigFrame
theorem que_take (q : Nat) (L : List Td) : DoesU Tryz.prog 92 #[.pointer (some ⟨q, 0, none⟩), .int .i64 2] [queT q L] fun u => [rowT elemCl u ((qout L).map Td.c), queT q (qrest L)] := DoesU.of_trip (A := queT q L) (queB_take q L) fun u W H h => star_mono (fun _ h => h) (fun _ h => star_comm (starl_emp h)) h
def msgsT (u : Value) (ms : List MM) : At := ⟨MsgsA u ms emp, msgsA_owns emp_owns⟩
theorem qout_len (L : List Td) : ((qout L).map Td.c).length ≤ 2 := by rw [List.length_map]; unfold qout qcount; rw [List.length_take]; omega
theorem of_cases (x : Int) : ((x == 2) = true ∧ x = 2) ∨ ((x == 2) = false ∧ (x == 3) = true ∧ x = 3) ∨ ((x == 2) = false ∧ (x == 3) = false ∧ x ≠ 2 ∧ x ≠ 3) := by
 by_cases h2 : x = 2
 ·exact .inl ⟨by simpa using h2, h2⟩
 ·by_cases h3 : x = 3
  ·exact .inr (.inl ⟨by simpa using h2, by simpa using h3, h3⟩)
  ·exact .inr (.inr ⟨by simpa using h2, by simpa using h3, h2, h3⟩)
set_option maxHeartbeats 4000000 in
set_option maxRecDepth 100000 in
theorem claimsTo_d (d : Nat) (s : DS) (pv pq po pc : Nat) (node : Int) : DoesU Tryz.prog 70 #[.pointer (some ⟨d, 0, none⟩), .int .i64 node] [lanT d s pv pq po pc, viewT pv s.V, queT pq s.Q] (fun v => [rowT elemCl v (claimsTo s node), lanT d s pv pq po pc, viewT pv s.V, queT pq (qrest s.Q)]) := by
 intro w H hp
 have HM0 := Lib.hid (mem_refl hp)
 clear hp
 obtain ⟨⟨c0, c1, c2⟩, hc0'⟩ : ∃ c, ofV s.V s.self = c := ⟨_, rfl⟩
 obtain ⟨⟨n1, i1, h1⟩, hc1'⟩ : ∃ c, ofV s.V node = c := ⟨_, rfl⟩
 have HV0 : Hid (Does Tryz.prog 59 #[.pointer (some ⟨pv, 0, none⟩), .int .i64 s.self] [viewT pv s.V] (cl3 c0 c1 c2) [viewT pv s.V]) := Lib.hid (by have := view_of pv s.V s.self; rw [hc0'] at this; exact this)
 have HV1 : Hid (Does Tryz.prog 59 #[.pointer (some ⟨pv, 0, none⟩), .int .i64 node] [viewT pv s.V] (cl3 n1 i1 h1) [viewT pv s.V]) := Lib.hid (by have := view_of pv s.V node; rw [hc1'] at this; exact this)
 have hc0 := Lib.hid hc0'
 have hc1 := Lib.hid hc1'
 clear hc0' hc1'
 go_enter Tryz.func70, Tryz.ntmps70
 refine wp_seq ?_
 refine wp_region_N [(0, 1)] (by kernel_rfl) ?_
 refine wS1 [0] ?_
 repeat (go_big_quiet_step (fail))
 refine wpQuiet_nil ?_
 refine wpS_nil ?_
 refine then_normal ?_
 refine wp_seq ?_
 refine wp_region_M (fun k => k ∈ ([] : List Nat)) [(0, 1), (1, 1), (2, 1), (3, 1), (4, 1), (5, 1), (6, 1), (7, 1), (8, 3), (9, 3), (10, 1)] (by kernel_rfl) (by kernel_rfl) HM0.out ?_
 intro W1 hm2
 have HM3 := Lib.hid hm2
 clear hm2
 have Cd := Mem.cell HM3.out 0 rfl
 refine wS1 [0, 1, 2, 3, 4, 5, 6, 7] ?_
 repeat (go_big_quiet_step (fail))
 refine wpQuiet_nil ?_
 clear Cd
 refine wpS_does2 (i := 8) (d := some 15) (rem := [_, _]) (out := [_, _, _]) rfl (by rfl) rfl Tryz.call59 (HV0.out) rfl rfl HM3.out [1] rfl covS_nil rfl rfl ?_
 rintro W5 hm4 -
 have HM6 := Lib.hid hm4
 clear hm4
 simp only [Act.put, pA, pB, pC]
 refine wpS_build1 elemCl (i := 9) (dd := 16) (y := ⟨c0, c1, c2⟩) rfl (by rfl) rfl rfl rfl (by decide) HM6.out covS_nil rfl ?_
 rintro b9 W10 hm11 -
 have HM12 := Lib.hid hm11
 clear hm11
 simp only [Act.put, pA, pB, pC]
 refine wS1 [10] ?_
 repeat (go_big_quiet_step (fail))
 refine wpQuiet_nil ?_
 refine wpS_nil ?_
 refine then_normal ?_
 refine wp_seq ?_
 refine wp_seq ?_
 refine wp_region_N [(0, 1), (1, 1), (2, 1), (3, 1), (4, 1), (5, 3), (6, 3), (7, 3)] (by kernel_rfl) ?_
 have Cd := Mem.cell HM12.out 2 rfl
 refine wS1 [0, 1, 2, 3, 4] ?_
 repeat (go_big_quiet_step (fail))
 refine wpQuiet_nil ?_
 clear Cd
 refine wpS_does2 (i := 5) (d := some 22) (rem := [_, _, _]) (out := [_, _, _, _]) rfl (by rfl) rfl Tryz.call59 (HV1.out) rfl rfl HM12.out [1] rfl covS_nil rfl rfl ?_
 rintro W14 hm13 -
 have HM15 := Lib.hid hm13
 clear hm13
 simp only [Act.put, pA, pB, pC]
 refine wpS_alloc (i := 6) (dd := 6) (z := .agg #[.int .i64 0, .int .i64 0, .int .i64 0]) (cs := #[.int .i64 0, .int .i64 0, .int .i64 0]) rfl (by rfl) rfl (by kernel_rfl) rfl HM15.out covS_nil rfl ?_
 rintro b18 W17 hm16 -
 have HM19 := Lib.hid hm16
 clear hm16
 simp only [Act.put, pA, pB, pC]
 refine wpS_storeA (i := 7) (L2 := [_, _, _, _]) (cs' := [_, _, _]) rfl (by rfl) rfl rfl rfl (by kernel_rfl) (by rfl) HM19.out 0 rfl rfl rfl rfl covS_nil rfl ?_
 rintro W21 hm20 -
 have HM22 := Lib.hid hm20
 clear hm20
 refine wpS_nil ?_
 refine then_normal ?_
 refine wp_seq ?_
 rcases of_cases h1 with ⟨g2, e2⟩ | ⟨g2, g3, e3⟩ | ⟨g2, g3, e2, e3⟩
 ·have HC : Hid (claimsTo s node = [⟨c0, c1, c2⟩] ++ [⟨n1, i1, h1⟩] ++ (qout s.Q).map Td.c) := Lib.hid (by unfold claimsTo; rw [hc0.out, hc1.out, if_pos (.inl e2)])
  clear e2
  refine wp_region_N [(0, 1), (1, 1), (2, 1), (3, 1), (4, 1), (5, 1), (6, 1), (7, 1)] (by kernel_rfl) ?_
  have Cb6 := Mem.cell HM22.out 0 rfl
  refine wS1 [0, 1, 2, 3, 4, 5, 6, 7] ?_
  repeat (go_big_quiet_step (fail))
  refine wpQuiet_nil ?_
  clear Cb6
  refine wpS_nil ?_
  refine then_normal ?_
  refine wp_cond_true rfl ?_
  refine wp_region_N [(0, 1), (1, 1), (2, 3), (3, 3), (4, 1)] (by kernel_rfl) ?_
  have Cb6 := Mem.cell HM22.out 0 rfl
  refine wS1 [0, 1] ?_
  repeat (go_big_quiet_step (fail))
  refine wpQuiet_nil ?_
  clear Cb6
  refine wpS_build1 elemCl (i := 2) (dd := 33) (y := ⟨n1, i1, h1⟩) rfl (by rfl) rfl rfl rfl (by decide) HM22.out covS_nil rfl ?_
  rintro b25 W26 hm27 -
  have HM28 := Lib.hid hm27
  clear hm27
  simp only [Act.put, pA, pB, pC]
  refine wpS_append (E := elemCl) (i := 3) (d := some 34) (L2 := [_, _, _, _, _]) rfl (by rfl) rfl HM28.out 3 rfl rfl (HM28.out.src 0 rfl rowT_reads) rfl (by show (1 + 1) * 24 ≤ _; omega) rfl covS_nil rfl ?_
  rintro v31 W32 hm33 -
  have HM34 := Lib.hid hm33
  clear hm33
  simp only [Act.put, pA, pB, pC]
  refine wS1 [4] ?_
  repeat (go_big_quiet_step (fail))
  refine wpQuiet_nil ?_
  refine wpS_nil ?_
  refine then_normal ?_
  refine wp_seq ?_
  refine wp_region_N [(0, 1), (1, 1), (2, 1), (3, 1), (4, 1), (5, 3), (6, 3), (7, 1)] (by kernel_rfl) ?_
  have Cd := Mem.cell HM34.out 4 rfl
  refine wS1 [0, 1, 2, 3, 4] ?_
  repeat (go_big_quiet_step (fail))
  refine wpQuiet_nil ?_
  clear Cd
  refine wpS_doesU2 (i := 5) (d := some 40) (rem := [_, _, _, _, _]) rfl (by rfl) rfl Tryz.call92 (que_take pq s.Q) rfl rfl HM34.out [5] rfl covS_nil (fun _ => rfl) rfl ?_
  rintro u37 W36 hm35 -
  have HM38 := Lib.hid hm35
  clear hm35
  simp only [Act.put, pA, pB, pC]
  refine wpS_append (E := elemCl) (i := 6) (d := some 41) (L2 := [_, _, _, _, _, _]) rfl (by rfl) rfl HM38.out 2 rfl rfl (HM38.out.src 0 rfl rowT_reads) rfl (by have := qout_len s.Q; simp only [List.length_append, List.length_cons, List.length_nil]; show (_ + _) * 24 ≤ _; omega) rfl covS_nil rfl ?_
  rintro v41 W42 hm43 -
  have HM44 := Lib.hid hm43
  clear hm43
  simp only [Act.put, pA, pB, pC]
  refine wS1 [7] ?_
  repeat (go_big_quiet_step (fail))
  refine wpQuiet_nil ?_
  refine wpS_nil ?_
  refine then_normal ?_
  refine wp_ret ?_
  refine bodyPost_ret (results_tmp rfl _ _ _) rfl ?_
  exact doesU_ret (post := fun v => [rowT elemCl v (claimsTo s node), lanT d s pv pq po pc, viewT pv s.V, queT pq (qrest s.Q)]) (by rw [HC.out]; exact (Mem.only (M := [_, _, _, _]) HM44.out [0, 5, 4, 1] rfl)) rfl
 ·have HC : Hid (claimsTo s node = [⟨c0, c1, c2⟩] ++ [⟨n1, i1, h1⟩] ++ (qout s.Q).map Td.c) := Lib.hid (by unfold claimsTo; rw [hc0.out, hc1.out, if_pos (.inr e3)])
  clear e3
  refine wp_region_N [(0, 1), (1, 1), (2, 1), (3, 1), (4, 1), (5, 1), (6, 1), (7, 1)] (by kernel_rfl) ?_
  have Cb6 := Mem.cell HM22.out 0 rfl
  refine wS1 [0, 1, 2, 3, 4, 5, 6, 7] ?_
  repeat (go_big_quiet_step (fail))
  refine wpQuiet_nil ?_
  clear Cb6
  refine wpS_nil ?_
  refine then_normal ?_
  refine wp_cond_true rfl ?_
  refine wp_region_N [(0, 1), (1, 1), (2, 3), (3, 3), (4, 1)] (by kernel_rfl) ?_
  have Cb6 := Mem.cell HM22.out 0 rfl
  refine wS1 [0, 1] ?_
  repeat (go_big_quiet_step (fail))
  refine wpQuiet_nil ?_
  clear Cb6
  refine wpS_build1 elemCl (i := 2) (dd := 33) (y := ⟨n1, i1, h1⟩) rfl (by rfl) rfl rfl rfl (by decide) HM22.out covS_nil rfl ?_
  rintro b47 W48 hm49 -
  have HM50 := Lib.hid hm49
  clear hm49
  simp only [Act.put, pA, pB, pC]
  refine wpS_append (E := elemCl) (i := 3) (d := some 34) (L2 := [_, _, _, _, _]) rfl (by rfl) rfl HM50.out 3 rfl rfl (HM50.out.src 0 rfl rowT_reads) rfl (by show (1 + 1) * 24 ≤ _; omega) rfl covS_nil rfl ?_
  rintro v53 W54 hm55 -
  have HM56 := Lib.hid hm55
  clear hm55
  simp only [Act.put, pA, pB, pC]
  refine wS1 [4] ?_
  repeat (go_big_quiet_step (fail))
  refine wpQuiet_nil ?_
  refine wpS_nil ?_
  refine then_normal ?_
  refine wp_seq ?_
  refine wp_region_N [(0, 1), (1, 1), (2, 1), (3, 1), (4, 1), (5, 3), (6, 3), (7, 1)] (by kernel_rfl) ?_
  have Cd := Mem.cell HM56.out 4 rfl
  refine wS1 [0, 1, 2, 3, 4] ?_
  repeat (go_big_quiet_step (fail))
  refine wpQuiet_nil ?_
  clear Cd
  refine wpS_doesU2 (i := 5) (d := some 40) (rem := [_, _, _, _, _]) rfl (by rfl) rfl Tryz.call92 (que_take pq s.Q) rfl rfl HM56.out [5] rfl covS_nil (fun _ => rfl) rfl ?_
  rintro u59 W58 hm57 -
  have HM60 := Lib.hid hm57
  clear hm57
  simp only [Act.put, pA, pB, pC]
  refine wpS_append (E := elemCl) (i := 6) (d := some 41) (L2 := [_, _, _, _, _, _]) rfl (by rfl) rfl HM60.out 2 rfl rfl (HM60.out.src 0 rfl rowT_reads) rfl (by have := qout_len s.Q; simp only [List.length_append, List.length_cons, List.length_nil]; show (_ + _) * 24 ≤ _; omega) rfl covS_nil rfl ?_
  rintro v63 W64 hm65 -
  have HM66 := Lib.hid hm65
  clear hm65
  simp only [Act.put, pA, pB, pC]
  refine wS1 [7] ?_
  repeat (go_big_quiet_step (fail))
  refine wpQuiet_nil ?_
  refine wpS_nil ?_
  refine then_normal ?_
  refine wp_ret ?_
  refine bodyPost_ret (results_tmp rfl _ _ _) rfl ?_
  exact doesU_ret (post := fun v => [rowT elemCl v (claimsTo s node), lanT d s pv pq po pc, viewT pv s.V, queT pq (qrest s.Q)]) (by rw [HC.out]; exact (Mem.only (M := [_, _, _, _]) HM66.out [0, 5, 4, 1] rfl)) rfl
 ·have HC : Hid (claimsTo s node = [⟨c0, c1, c2⟩] ++ (qout s.Q).map Td.c) := Lib.hid (by unfold claimsTo; rw [hc0.out, hc1.out, if_neg (fun h => h.elim e2 e3)]; rfl)
  clear e2 e3
  refine wp_region_N [(0, 1), (1, 1), (2, 1), (3, 1), (4, 1), (5, 1), (6, 1), (7, 1)] (by kernel_rfl) ?_
  have Cb6 := Mem.cell HM22.out 0 rfl
  refine wS1 [0, 1, 2, 3, 4, 5, 6, 7] ?_
  repeat (go_big_quiet_step (fail))
  refine wpQuiet_nil ?_
  clear Cb6
  refine wpS_nil ?_
  refine then_normal ?_
  refine wp_cond_false rfl ?_
  refine wp_skip ?_
  refine then_normal ?_
  refine wp_seq ?_
  refine wp_region_N [(0, 1), (1, 1), (2, 1), (3, 1), (4, 1), (5, 3), (6, 3), (7, 1)] (by kernel_rfl) ?_
  have Cd := Mem.cell HM22.out 3 rfl
  refine wS1 [0, 1, 2, 3, 4] ?_
  repeat (go_big_quiet_step (fail))
  refine wpQuiet_nil ?_
  clear Cd
  refine wpS_doesU2 (i := 5) (d := some 40) (rem := [_, _, _, _]) rfl (by rfl) rfl Tryz.call92 (que_take pq s.Q) rfl rfl HM22.out [4] rfl covS_nil (fun _ => rfl) rfl ?_
  rintro u69 W68 hm67 -
  have HM70 := Lib.hid hm67
  clear hm67
  simp only [Act.put, pA, pB, pC]
  refine wpS_append (E := elemCl) (i := 6) (d := some 41) (L2 := [_, _, _, _, _]) rfl (by rfl) rfl HM70.out 4 rfl rfl (HM70.out.src 0 rfl rowT_reads) rfl (by have := qout_len s.Q; simp only [List.length_append, List.length_cons, List.length_nil]; show (_ + _) * 24 ≤ _; omega) rfl covS_nil rfl ?_
  rintro v73 W74 hm75 -
  have HM76 := Lib.hid hm75
  clear hm75
  simp only [Act.put, pA, pB, pC]
  refine wS1 [7] ?_
  repeat (go_big_quiet_step (fail))
  refine wpQuiet_nil ?_
  refine wpS_nil ?_
  refine then_normal ?_
  refine wp_ret ?_
  refine bodyPost_ret (results_tmp rfl _ _ _) rfl ?_
  exact doesU_ret (post := fun v => [rowT elemCl v (claimsTo s node), lanT d s pv pq po pc, viewT pv s.V, queT pq (qrest s.Q)]) (by rw [HC.out]; exact (Mem.only (M := [_, _, _, _]) HM76.out [0, 4, 3, 1] rfl)) rfl
def postD (s : DS) (kind dst seq for' about : Int) : DS × List MM := if s.left then (s, []) else ((sendD s kind dst seq for' about).1, [(sendD s kind dst seq for' about).2])
theorem msgs_nil {L : List At} {H : Nat → Prop} {w W : World} (h : Mem L H w W) : Mem (msgsT (.slice none 0 0) [] :: L) H w W := SEnd.mono h fun _ h => msgsA_out (msgs_none h)
theorem msgs_one {L : List At} {H : Nat → Prop} {w W : World} {u : Value} {kind frm dst seq fo ab : Int} {p : Option Addr} {n cap : Nat} {cls : List Cl} (h : Mem (rowT elemM u [⟨kind, frm, dst, seq, fo, ab, p, n, cap⟩] :: rowT elemCl (.slice p n cap) cls :: L) H w W) : Mem (msgsT u [⟨kind, frm, dst, seq, fo, ab, cls⟩] :: L) H w W :=
 SEnd.mono h fun _ h => msgsA_out ⟨[⟨kind, frm, dst, seq, fo, ab, p, n, cap⟩], star_mono (fun _ h => h) (fun _ h => (⟨⟨rfl, rfl, rfl, rfl, rfl, rfl⟩, h⟩ : pureA _ _ _ _)) h⟩
set_option maxHeartbeats 4000000 in
set_option maxRecDepth 100000 in
theorem send_left (d : Nat) (s : DS) (pv pq po pc : Nat) (kind dst seq fo ab : Int) (hl : s.left = true) : DoesU Tryz.prog 45 #[.pointer (some ⟨d, 0, none⟩), (.agg (RawM.enc ⟨kind, 0, dst, seq, fo, ab, none, 0, 0⟩).toArray)] [lanT d s pv pq po pc, viewT pv s.V, queT pq s.Q] (fun u => [msgsT u (postD s kind dst seq fo ab).2, lanT d s pv pq po pc, viewT pv s.V, queT pq (postD s kind dst seq fo ab).1.Q]) := by
 intro w H hp
 have HM0 := Lib.hid (mem_refl hp)
 clear hp
 have HP : Hid (postD s kind dst seq fo ab = (s, [])) := Lib.hid (by unfold postD; rw [hl]; rfl)
 go_enter Tryz.func45, Tryz.ntmps45
 refine wp_seq ?_
 refine wp_region_N [(0, 3), (1, 1)] (by kernel_rfl) ?_
 refine wpS_boxA (i := 0) (dd := 3) rfl (by rfl) rfl rfl HM0.out covS_nil rfl ?_
 rintro b3 W2 hm1 -
 have HM4 := Lib.hid hm1
 clear hm1
 simp only [Act.put, pA, pB, pC]
 refine wS1 [1] ?_
 repeat (go_big_quiet_step (fail))
 refine wpQuiet_nil ?_
 refine wpS_nil ?_
 refine then_normal ?_
 refine wp_seq ?_
 refine wp_seq ?_
 refine wp_region_N [(0, 1), (1, 1), (2, 1), (3, 1)] (by kernel_rfl) ?_
 have Cd := Mem.cell HM4.out 1 rfl
 refine wS1 [0, 1, 2, 3] ?_
 repeat (go_big_quiet_step (fail))
 refine wpQuiet_nil ?_
 clear Cd
 refine wpS_nil ?_
 refine then_normal ?_
 refine wp_cond_true rfl ?_
 refine wp_seq ?_
 refine wp_region_N [(0, 1)] (by kernel_rfl) ?_
 refine wS1 [0] ?_
 repeat (go_big_quiet_step (fail))
 refine wpQuiet_nil ?_
 refine wpS_nil ?_
 refine then_normal ?_
 refine wp_ret ?_
 refine then_ret ?_
 refine bodyPost_ret (results_tmp rfl _ _ _) rfl ?_
 exact doesU_ret (post := fun u => [msgsT u (postD s kind dst seq fo ab).2, lanT d s pv pq po pc, viewT pv s.V, queT pq (postD s kind dst seq fo ab).1.Q]) (by rw [HP.out]; exact msgs_nil (Mem.only (M := [_, _, _]) HM4.out [1, 1, 1] rfl)) rfl
set_option maxHeartbeats 4000000 in
set_option maxRecDepth 100000 in
theorem send_out (d : Nat) (s : DS) (pv pq po pc : Nat) (kind dst seq fo ab : Int) (hl : s.left = false) : DoesU Tryz.prog 45 #[.pointer (some ⟨d, 0, none⟩), (.agg (RawM.enc ⟨kind, 0, dst, seq, fo, ab, none, 0, 0⟩).toArray)] [lanT d s pv pq po pc, viewT pv s.V, queT pq s.Q] (fun u => [msgsT u (postD s kind dst seq fo ab).2, lanT d s pv pq po pc, viewT pv s.V, queT pq (postD s kind dst seq fo ab).1.Q]) := by
 intro w H hp
 have HM0 := Lib.hid (mem_refl hp)
 clear hp
 have HP : Hid (postD s kind dst seq fo ab = ((sendD s kind dst seq fo ab).1, [(sendD s kind dst seq fo ab).2])) := Lib.hid (by unfold postD; rw [hl]; rfl)
 go_enter Tryz.func45, Tryz.ntmps45
 refine wp_seq ?_
 refine wp_region_N [(0, 3), (1, 1)] (by kernel_rfl) ?_
 refine wpS_boxA (i := 0) (dd := 3) rfl (by rfl) rfl rfl HM0.out covS_nil rfl ?_
 rintro b3 W2 hm1 -
 have HM4 := Lib.hid hm1
 clear hm1
 simp only [Act.put, pA, pB, pC]
 refine wS1 [1] ?_
 repeat (go_big_quiet_step (fail))
 refine wpQuiet_nil ?_
 refine wpS_nil ?_
 refine then_normal ?_
 refine wp_seq ?_
 refine wp_seq ?_
 refine wp_region_N [(0, 1), (1, 1), (2, 1), (3, 1)] (by kernel_rfl) ?_
 have Cd := Mem.cell HM4.out 1 rfl
 refine wS1 [0, 1, 2, 3] ?_
 repeat (go_big_quiet_step (fail))
 refine wpQuiet_nil ?_
 clear Cd
 refine wpS_nil ?_
 refine then_normal ?_
 refine wp_cond_false rfl ?_
 refine wp_skip ?_
 refine then_normal ?_
 refine wp_seq ?_
 refine wp_region_N [(0, 1), (1, 1), (2, 1), (3, 1), (4, 1), (5, 3)] (by kernel_rfl) ?_
 have Cd := Mem.cell HM4.out 1 rfl
 refine wS1 [0, 1, 2, 3, 4] ?_
 repeat (go_big_quiet_step (fail))
 refine wpQuiet_nil ?_
 clear Cd
 refine wpS_store1 (i := 5) (L2 := [_, _, _]) (cs' := RawM.enc ⟨kind, s.self, dst, seq, fo, ab, none, 0, 0⟩) rfl (by rfl) rfl rfl rfl rfl (by kernel_rfl) rfl HM4.out 0 rfl rfl (by kernel_rfl) (by kernel_rfl) covS_nil rfl ?_
 rintro W6 hm5 -
 have HM7 := Lib.hid hm5
 clear hm5
 refine wpS_nil ?_
 refine then_normal ?_
 refine wp_seq ?_
 refine wp_region_N [(0, 1), (1, 1), (2, 1), (3, 3), (4, 1), (5, 3)] (by kernel_rfl) ?_
 refine wS1 [0, 1] ?_
 repeat (go_big_quiet_step (fail))
 refine wpQuiet_nil ?_
 refine wpS_load1 (i := 2) (d := some 16) (u := .int .i64 dst) rfl (by rfl) rfl rfl (HM7.out.cellL 0 rfl 2) Tryz.underlying3 rfl rfl ?_
 simp only [Act.put, pA, pB, pC]
 refine wpS_doesU2 (i := 3) (d := some 17) (rem := [_]) rfl (by rfl) rfl Tryz.call70 (claimsTo_d d s pv pq po pc dst) rfl rfl HM7.out [1, 1, 1] rfl covS_nil (fun _ => rfl) rfl ?_
 rintro u10 W9 hm8 -
 obtain ⟨cp, cc, rfl⟩ := row_form (Mem.src hm8 0 rfl rowT_reads)
 have HM11 := Lib.hid hm8
 clear hm8
 simp only [Act.put, pA, pB, pC]
 refine wS1 [4] ?_
 repeat (go_big_quiet_step (fail))
 refine wpQuiet_nil ?_
 refine wpS_store1 (i := 5) (L2 := [_, _, _, _]) (cs' := RawM.enc ⟨kind, s.self, dst, seq, fo, ab, cp, (claimsTo s dst).length, cc⟩) rfl (by rfl) rfl rfl rfl rfl (by kernel_rfl) rfl HM11.out 4 rfl rfl (by kernel_rfl) (by kernel_rfl) covS_nil rfl ?_
 rintro W13 hm12 -
 have HM14 := Lib.hid hm12
 clear hm12
 refine wpS_nil ?_
 refine then_normal ?_
 refine wp_seq ?_
 refine wp_region_N [(0, 1), (1, 3), (2, 1)] (by kernel_rfl) ?_
 refine wpS_loadA (i := 0) (d := some 19) (cells := RawM.enc ⟨kind, s.self, dst, seq, fo, ab, cp, (claimsTo s dst).length, cc⟩) rfl (by rfl) rfl rfl (HM14.out.cells0 0 rfl) Tryz.underlying46 rfl (by kernel_rfl) rfl ?_
 simp only [Act.put, pA, pB, pC]
 refine wpS_build1 elemM (i := 1) (dd := 20) (y := ⟨kind, s.self, dst, seq, fo, ab, cp, (claimsTo s dst).length, cc⟩) rfl (by rfl) rfl rfl rfl (by decide) HM14.out covS_nil rfl ?_
 rintro b17 W18 hm19 -
 have HM20 := Lib.hid hm19
 clear hm19
 simp only [Act.put, pA, pB, pC]
 refine wS1 [2] ?_
 repeat (go_big_quiet_step (fail))
 refine wpQuiet_nil ?_
 refine wpS_nil ?_
 refine then_normal ?_
 refine wp_ret ?_
 refine bodyPost_ret (results_tmp rfl _ _ _) rfl ?_
 exact doesU_ret (post := fun u => [msgsT u (postD s kind dst seq fo ab).2, lanT d s pv pq po pc, viewT pv s.V, queT pq (postD s kind dst seq fo ab).1.Q]) (by rw [HP.out]; exact msgs_one (Mem.only (M := [_, _, _, _, _]) HM20.out [0, 1, 1, 1, 1] rfl)) rfl
theorem send_d (d : Nat) (s : DS) (pv pq po pc : Nat) (kind dst seq fo ab : Int) : DoesU Tryz.prog 45 #[.pointer (some ⟨d, 0, none⟩), (.agg (RawM.enc ⟨kind, 0, dst, seq, fo, ab, none, 0, 0⟩).toArray)] [lanT d s pv pq po pc, viewT pv s.V, queT pq s.Q] (fun u => [msgsT u (postD s kind dst seq fo ab).2, lanT d s pv pq po pc, viewT pv s.V, queT pq (postD s kind dst seq fo ab).1.Q]) := by
 cases hl : s.left with
 | true => exact send_left d s pv pq po pc kind dst seq fo ab hl
 | false => exact send_out d s pv pq po pc kind dst seq fo ab hl
end Go.Proofs.YtjbihgfdgaiecaaGreat

/- The landed detector: messages that come in. -/
namespace Go.Proofs.YtjbihgfdgaiecaaGreat
open Go Go.RowKit Go.BigFrame
def ackD (s : DS) (m : InM) : DS × List MM :=
 if m.for' = s.self then (if m.seq = s.seq ∧ 0 ≤ s.asked then ({ s with C := cutM (cutM s.C 1) 2, asked := -1 }, []) else (s, []))
 else if nodeB m.for' = true then postD s 2 m.for' m.seq m.for' 0 else (s, [])
def pingReqD (s : DS) (m : InM) : DS × List MM := if nodeB m.about = true ∧ m.about ≠ s.self then postD s 1 m.about m.seq m.frm 0 else (s, [])
theorem postD_rest (s : DS) (kind dst seq fo ab : Int) : ∃ Q, (postD s kind dst seq fo ab).1 = { s with Q := Q } := by
 unfold postD
 split
 ·exact ⟨s.Q, rfl⟩
 ·exact ⟨_, rfl⟩
theorem hand_nil {d : Nat} {s s' : DS} {pv pq po pc : Nat} {H : Nat → Prop} {w W : World} {r : DS × List MM} (hD : r = (s', [])) (hm : Mem (LP d s' pv pq po pc) H w W) : ∃ u, Ending.returned (.slice none 0 0) = .returned u ∧ SEnd (stars (msgsT u r.2 :: LP d r.1 pv pq po pc)) H w W := by
 rw [hD]
 exact ⟨_, rfl, msgs_nil hm⟩
theorem hand_post {d : Nat} {s : DS} {pv pq po pc : Nat} {H : Nat → Prop} {w W : World} {u : Value} {r : DS × List MM} {kind dst seq fo ab : Int} (hD : r = postD s kind dst seq fo ab) (hm : Mem [msgsT u (postD s kind dst seq fo ab).2, lanT d s pv pq po pc, viewT pv s.V, queT pq (postD s kind dst seq fo ab).1.Q, ordT po s.self s.O, clkT pc s.C] H w W) : ∃ v, Ending.returned u = .returned v ∧ SEnd (stars (msgsT v r.2 :: LP d r.1 pv pq po pc)) H w W := by
 rw [hD]
 obtain ⟨Q, hQ⟩ := postD_rest s kind dst seq fo ab
 rw [hQ] at hm ⊢
 exact ⟨_, rfl, hm⟩
theorem InM.enc_len {m : InM} (hm : m.mid.length = 55) : m.enc.length = 62 := by unfold InM.enc; simp [hm]
set_option maxHeartbeats 4000000 in
set_option maxRecDepth 100000 in
theorem handleAck_hit (d : Nat) (s : DS) (pv pq po pc : Nat) (m : InM) (hm : m.mid.length = 55) (hf : m.for' = s.self) (ha : 0 ≤ s.asked) (hq : m.seq = s.seq) : DoesU Tryz.prog 46 #[.pointer (some ⟨d, 0, none⟩), (.agg m.enc.toArray)] [lanT d s pv pq po pc, viewT pv s.V, queT pq s.Q, ordT po s.self s.O, clkT pc s.C] (fun u => msgsT u (ackD s m).2 :: LP d (ackD s m).1 pv pq po pc) := by
 intro w H hp
 have HM0 := Lib.hid (mem_refl hp)
 clear hp
 have g1 : (m.for' != s.self) = false := by rw [bne_eq_false_iff_eq]; exact hf
 have g2 : (s.asked != -1) = true := by rw [bne_iff_ne]; exact (by omega)
 have g3 : (m.seq == s.seq) = true := by rw [beq_iff_eq]; exact hq
 have HD : Hid (ackD s m = ({ s with C := cutM (cutM s.C 1) 2, asked := -1 }, [])) := Lib.hid (by unfold ackD; rw [if_pos hf, if_pos ⟨hq, ha⟩])
 clear hf ha hq
 go_enter Tryz.func46, Tryz.ntmps46
 refine wp_seq ?_
 refine wp_region_N [(0, 3), (1, 1)] (by kernel_rfl) ?_
 refine wpS_boxA (i := 0) (dd := 3) rfl (by rfl) rfl rfl HM0.out covS_nil rfl ?_
 rintro b3 W2 hm1 -
 have HM4 := Lib.hid hm1
 clear hm1
 simp only [Act.put, pA, pB, pC]
 refine wS1 [1] ?_
 repeat (go_big_quiet_step (fail))
 refine wpQuiet_nil ?_
 refine wpS_nil ?_
 refine then_normal ?_
 refine wp_seq ?_
 refine wp_seq ?_
 refine wp_region_M (fun k => k ∈ ([] : List Nat)) [(0, 1), (1, 1), (2, 1), (3, 1), (4, 1), (5, 1), (6, 1)] (by kernel_rfl) (by kernel_rfl) HM4.out ?_
 intro W5 hm6
 have HM7 := Lib.hid hm6
 clear hm6
 refine wS1 [0] ?_
 repeat (go_big_quiet_step (fail))
 refine wpQuiet_nil ?_
 refine wpS_load1 (i := 1) (d := some 6) (u := .int .i64 m.for') rfl (by rfl) rfl rfl (HM7.out.cellL 0 rfl 4) Tryz.underlying3 rfl rfl ?_
 simp only [Act.put, pA, pB, pC]
 have Cd := Mem.cell HM7.out 1 rfl
 refine wS1 [2, 3, 4, 5, 6] ?_
 repeat (go_big_quiet_step (fail))
 refine wpQuiet_nil ?_
 clear Cd
 refine wpS_nil ?_
 refine then_normal ?_
 refine wp_cond_false rfl ?_
 refine wp_skip ?_
 refine then_normal ?_
 refine wp_seq ?_
 refine wp_seq ?_
 refine wp_region_M (fun k => k ∈ ([] : List Nat)) [(0, 1), (1, 1), (2, 1), (3, 1), (4, 1), (5, 1), (6, 1), (7, 1), (8, 1), (9, 1), (10, 1), (11, 1), (12, 1), (13, 1)] (by kernel_rfl) (by kernel_rfl) HM7.out ?_
 intro W8 hm9
 have HM10 := Lib.hid hm9
 clear hm9
 have Cd := Mem.cell HM10.out 1 rfl
 refine wS1 [0, 1, 2, 3, 4, 5, 6] ?_
 repeat (go_big_quiet_step (fail))
 refine wpQuiet_nil ?_
 clear Cd
 refine wpS_load1 (i := 7) (d := some 32) (u := .int .i64 m.seq) rfl (by rfl) rfl rfl (HM10.out.cellL 0 rfl 3) Tryz.underlying3 rfl rfl ?_
 simp only [Act.put, pA, pB, pC]
 have Cd := Mem.cell HM10.out 1 rfl
 refine wS1 [8, 9, 10, 11, 12, 13] ?_
 repeat (go_big_quiet_step (fail))
 refine wpQuiet_nil ?_
 clear Cd
 refine wpS_nil ?_
 refine then_normal ?_
 refine wp_cond_true rfl ?_
 refine wp_seq ?_
 refine wp_region_N [(0, 1), (1, 1), (2, 1), (3, 1), (4, 3)] (by kernel_rfl) ?_
 have Cd := Mem.cell HM10.out 1 rfl
 refine wS1 [0, 1, 2, 3] ?_
 repeat (go_big_quiet_step (fail))
 refine wpQuiet_nil ?_
 clear Cd
 refine wpS_does2 (i := 4) (d := some 43) (rem := [_, _, _, _, _]) (out := [_, _, _, _, _, _]) rfl (by rfl) rfl Tryz.call71 (clk_cut pc s.C 1) rfl rfl HM10.out [5] rfl covS_nil rfl rfl ?_
 rintro W12 hm11 -
 have HM13 := Lib.hid hm11
 clear hm11
 simp only [Act.put, pA, pB, pC]
 refine wpS_nil ?_
 refine then_normal ?_
 refine wp_seq ?_
 refine wp_region_N [(0, 1), (1, 1), (2, 1), (3, 1), (4, 3)] (by kernel_rfl) ?_
 have Cd := Mem.cell HM13.out 2 rfl
 refine wS1 [0, 1, 2, 3] ?_
 repeat (go_big_quiet_step (fail))
 refine wpQuiet_nil ?_
 clear Cd
 refine wpS_does2 (i := 4) (d := some 48) (rem := [_, _, _, _, _]) (out := [_, _, _, _, _, _]) rfl (by rfl) rfl Tryz.call71 (clk_cut pc (cutM s.C 1) 2) rfl rfl HM13.out [0] rfl covS_nil rfl rfl ?_
 rintro W15 hm14 -
 have HM16 := Lib.hid hm14
 clear hm14
 simp only [Act.put, pA, pB, pC]
 refine wpS_nil ?_
 refine then_normal ?_
 refine wp_region_N [(0, 1), (1, 1), (2, 1), (3, 3)] (by kernel_rfl) ?_
 refine wS1 [0, 1, 2] ?_
 repeat (go_big_quiet_step (fail))
 refine wpQuiet_nil ?_
 refine wpS_store1 (i := 3) (v := .int _ _) (L2 := [_, _, _, _, _]) (cs' := [_, _, _, _, _, _, _, _, _, _, _]) rfl (by rfl) rfl rfl rfl rfl (by kernel_rfl) rfl HM16.out 2 rfl rfl rfl rfl covS_nil rfl ?_
 rintro W18 hm17 -
 have HM19 := Lib.hid hm17
 clear hm17
 refine wpS_nil ?_
 refine then_normal ?_
 refine wp_seq ?_
 refine wp_region_N [(0, 1)] (by kernel_rfl) ?_
 refine wS1 [0] ?_
 repeat (go_big_quiet_step (fail))
 refine wpQuiet_nil ?_
 refine wpS_nil ?_
 refine then_normal ?_
 refine wp_ret ?_
 refine bodyPost_ret (results_tmp rfl _ _ _) rfl ?_
 exact hand_nil (s := s) (s' := { s with C := cutM (cutM s.C 1) 2, asked := -1 }) HD.out (Mem.only (M := [_, _, _, _, _]) HM19.out [0, 2, 2, 2, 0] rfl)
set_option maxHeartbeats 4000000 in
set_option maxRecDepth 100000 in
theorem handleAck_seq (d : Nat) (s : DS) (pv pq po pc : Nat) (m : InM) (hm : m.mid.length = 55) (hf : m.for' = s.self) (ha : 0 ≤ s.asked) (hq : ¬ m.seq = s.seq) : DoesU Tryz.prog 46 #[.pointer (some ⟨d, 0, none⟩), (.agg m.enc.toArray)] [lanT d s pv pq po pc, viewT pv s.V, queT pq s.Q, ordT po s.self s.O, clkT pc s.C] (fun u => msgsT u (ackD s m).2 :: LP d (ackD s m).1 pv pq po pc) := by
 intro w H hp
 have HM0 := Lib.hid (mem_refl hp)
 clear hp
 have g1 : (m.for' != s.self) = false := by rw [bne_eq_false_iff_eq]; exact hf
 have g2 : (s.asked != -1) = true := by rw [bne_iff_ne]; exact (by omega)
 have g3 : (m.seq == s.seq) = false := by rw [beq_eq_false_iff_ne]; exact hq
 have HD : Hid (ackD s m = (s, [])) := Lib.hid (by unfold ackD; rw [if_pos hf, if_neg (fun h => hq h.1)])
 clear hf ha hq
 go_enter Tryz.func46, Tryz.ntmps46
 refine wp_seq ?_
 refine wp_region_N [(0, 3), (1, 1)] (by kernel_rfl) ?_
 refine wpS_boxA (i := 0) (dd := 3) rfl (by rfl) rfl rfl HM0.out covS_nil rfl ?_
 rintro b3 W2 hm1 -
 have HM4 := Lib.hid hm1
 clear hm1
 simp only [Act.put, pA, pB, pC]
 refine wS1 [1] ?_
 repeat (go_big_quiet_step (fail))
 refine wpQuiet_nil ?_
 refine wpS_nil ?_
 refine then_normal ?_
 refine wp_seq ?_
 refine wp_seq ?_
 refine wp_region_M (fun k => k ∈ ([] : List Nat)) [(0, 1), (1, 1), (2, 1), (3, 1), (4, 1), (5, 1), (6, 1)] (by kernel_rfl) (by kernel_rfl) HM4.out ?_
 intro W5 hm6
 have HM7 := Lib.hid hm6
 clear hm6
 refine wS1 [0] ?_
 repeat (go_big_quiet_step (fail))
 refine wpQuiet_nil ?_
 refine wpS_load1 (i := 1) (d := some 6) (u := .int .i64 m.for') rfl (by rfl) rfl rfl (HM7.out.cellL 0 rfl 4) Tryz.underlying3 rfl rfl ?_
 simp only [Act.put, pA, pB, pC]
 have Cd := Mem.cell HM7.out 1 rfl
 refine wS1 [2, 3, 4, 5, 6] ?_
 repeat (go_big_quiet_step (fail))
 refine wpQuiet_nil ?_
 clear Cd
 refine wpS_nil ?_
 refine then_normal ?_
 refine wp_cond_false rfl ?_
 refine wp_skip ?_
 refine then_normal ?_
 refine wp_seq ?_
 refine wp_seq ?_
 refine wp_region_M (fun k => k ∈ ([] : List Nat)) [(0, 1), (1, 1), (2, 1), (3, 1), (4, 1), (5, 1), (6, 1), (7, 1), (8, 1), (9, 1), (10, 1), (11, 1), (12, 1), (13, 1)] (by kernel_rfl) (by kernel_rfl) HM7.out ?_
 intro W8 hm9
 have HM10 := Lib.hid hm9
 clear hm9
 have Cd := Mem.cell HM10.out 1 rfl
 refine wS1 [0, 1, 2, 3, 4, 5, 6] ?_
 repeat (go_big_quiet_step (fail))
 refine wpQuiet_nil ?_
 clear Cd
 refine wpS_load1 (i := 7) (d := some 32) (u := .int .i64 m.seq) rfl (by rfl) rfl rfl (HM10.out.cellL 0 rfl 3) Tryz.underlying3 rfl rfl ?_
 simp only [Act.put, pA, pB, pC]
 have Cd := Mem.cell HM10.out 1 rfl
 refine wS1 [8, 9, 10, 11, 12, 13] ?_
 repeat (go_big_quiet_step (fail))
 refine wpQuiet_nil ?_
 clear Cd
 refine wpS_nil ?_
 refine then_normal ?_
 refine wp_cond_false rfl ?_
 refine wp_skip ?_
 refine then_normal ?_
 refine wp_seq ?_
 refine wp_region_N [(0, 1)] (by kernel_rfl) ?_
 refine wS1 [0] ?_
 repeat (go_big_quiet_step (fail))
 refine wpQuiet_nil ?_
 refine wpS_nil ?_
 refine then_normal ?_
 refine wp_ret ?_
 refine bodyPost_ret (results_tmp rfl _ _ _) rfl ?_
 exact hand_nil (s := s) (s' := s) HD.out (Mem.only (M := [_, _, _, _, _]) HM10.out [1, 1, 1, 1, 1] rfl)
set_option maxHeartbeats 4000000 in
set_option maxRecDepth 100000 in
theorem handleAck_idle (d : Nat) (s : DS) (pv pq po pc : Nat) (m : InM) (hm : m.mid.length = 55) (hf : m.for' = s.self) (ha : s.asked = -1) : DoesU Tryz.prog 46 #[.pointer (some ⟨d, 0, none⟩), (.agg m.enc.toArray)] [lanT d s pv pq po pc, viewT pv s.V, queT pq s.Q, ordT po s.self s.O, clkT pc s.C] (fun u => msgsT u (ackD s m).2 :: LP d (ackD s m).1 pv pq po pc) := by
 intro w H hp
 have HM0 := Lib.hid (mem_refl hp)
 clear hp
 have g1 : (m.for' != s.self) = false := by rw [bne_eq_false_iff_eq]; exact hf
 have g2 : (s.asked != -1) = false := by rw [bne_eq_false_iff_eq]; exact ha
 have HD : Hid (ackD s m = (s, [])) := Lib.hid (by unfold ackD; rw [if_pos hf, if_neg (fun h => by have := h.2; omega)])
 clear hf ha
 go_enter Tryz.func46, Tryz.ntmps46
 refine wp_seq ?_
 refine wp_region_N [(0, 3), (1, 1)] (by kernel_rfl) ?_
 refine wpS_boxA (i := 0) (dd := 3) rfl (by rfl) rfl rfl HM0.out covS_nil rfl ?_
 rintro b3 W2 hm1 -
 have HM4 := Lib.hid hm1
 clear hm1
 simp only [Act.put, pA, pB, pC]
 refine wS1 [1] ?_
 repeat (go_big_quiet_step (fail))
 refine wpQuiet_nil ?_
 refine wpS_nil ?_
 refine then_normal ?_
 refine wp_seq ?_
 refine wp_seq ?_
 refine wp_region_M (fun k => k ∈ ([] : List Nat)) [(0, 1), (1, 1), (2, 1), (3, 1), (4, 1), (5, 1), (6, 1)] (by kernel_rfl) (by kernel_rfl) HM4.out ?_
 intro W5 hm6
 have HM7 := Lib.hid hm6
 clear hm6
 refine wS1 [0] ?_
 repeat (go_big_quiet_step (fail))
 refine wpQuiet_nil ?_
 refine wpS_load1 (i := 1) (d := some 6) (u := .int .i64 m.for') rfl (by rfl) rfl rfl (HM7.out.cellL 0 rfl 4) Tryz.underlying3 rfl rfl ?_
 simp only [Act.put, pA, pB, pC]
 have Cd := Mem.cell HM7.out 1 rfl
 refine wS1 [2, 3, 4, 5, 6] ?_
 repeat (go_big_quiet_step (fail))
 refine wpQuiet_nil ?_
 clear Cd
 refine wpS_nil ?_
 refine then_normal ?_
 refine wp_cond_false rfl ?_
 refine wp_skip ?_
 refine then_normal ?_
 refine wp_seq ?_
 refine wp_seq ?_
 refine wp_region_M (fun k => k ∈ ([] : List Nat)) [(0, 1), (1, 1), (2, 1), (3, 1), (4, 1), (5, 1), (6, 1), (7, 1), (8, 1), (9, 1), (10, 1), (11, 1), (12, 1), (13, 1)] (by kernel_rfl) (by kernel_rfl) HM7.out ?_
 intro W8 hm9
 have HM10 := Lib.hid hm9
 clear hm9
 have Cd := Mem.cell HM10.out 1 rfl
 refine wS1 [0, 1, 2, 3, 4, 5, 6] ?_
 repeat (go_big_quiet_step (fail))
 refine wpQuiet_nil ?_
 clear Cd
 refine wpS_skip (i := 7) (d := some 32) rfl (by rfl) rfl ?_
 simp only [Act.put, pA, pB, pC]
 have Cd := Mem.cell HM10.out 1 rfl
 refine wS1 [8, 9, 10, 11, 12, 13] ?_
 repeat (go_big_quiet_step (fail))
 refine wpQuiet_nil ?_
 clear Cd
 refine wpS_nil ?_
 refine then_normal ?_
 refine wp_cond_false rfl ?_
 refine wp_skip ?_
 refine then_normal ?_
 refine wp_seq ?_
 refine wp_region_N [(0, 1)] (by kernel_rfl) ?_
 refine wS1 [0] ?_
 repeat (go_big_quiet_step (fail))
 refine wpQuiet_nil ?_
 refine wpS_nil ?_
 refine then_normal ?_
 refine wp_ret ?_
 refine bodyPost_ret (results_tmp rfl _ _ _) rfl ?_
 exact hand_nil (s := s) (s' := s) HD.out (Mem.only (M := [_, _, _, _, _]) HM10.out [1, 1, 1, 1, 1] rfl)
set_option maxHeartbeats 4000000 in
set_option maxRecDepth 100000 in
theorem handleAck_no (d : Nat) (s : DS) (pv pq po pc : Nat) (m : InM) (hm : m.mid.length = 55) (hf : ¬ m.for' = s.self) (hn : nodeB m.for' = false) : DoesU Tryz.prog 46 #[.pointer (some ⟨d, 0, none⟩), (.agg m.enc.toArray)] [lanT d s pv pq po pc, viewT pv s.V, queT pq s.Q, ordT po s.self s.O, clkT pc s.C] (fun u => msgsT u (ackD s m).2 :: LP d (ackD s m).1 pv pq po pc) := by
 intro w H hp
 have HM0 := Lib.hid (mem_refl hp)
 clear hp
 have g1 : (m.for' != s.self) = true := by rw [bne_iff_ne]; exact hf
 have HN : Hid (Does Tryz.prog 25 #[.int .i64 m.for'] [] (.bool false) []) := Lib.hid (by have := isNode_d m.for'; rw [hn] at this; exact this)
 have HD : Hid (ackD s m = (s, [])) := Lib.hid (by unfold ackD; rw [if_neg hf, if_neg (by rw [hn]; decide)])
 clear hf hn
 go_enter Tryz.func46, Tryz.ntmps46
 refine wp_seq ?_
 refine wp_region_N [(0, 3), (1, 1)] (by kernel_rfl) ?_
 refine wpS_boxA (i := 0) (dd := 3) rfl (by rfl) rfl rfl HM0.out covS_nil rfl ?_
 rintro b3 W2 hm1 -
 have HM4 := Lib.hid hm1
 clear hm1
 simp only [Act.put, pA, pB, pC]
 refine wS1 [1] ?_
 repeat (go_big_quiet_step (fail))
 refine wpQuiet_nil ?_
 refine wpS_nil ?_
 refine then_normal ?_
 refine wp_seq ?_
 refine wp_seq ?_
 refine wp_region_M (fun k => k ∈ ([] : List Nat)) [(0, 1), (1, 1), (2, 1), (3, 1), (4, 1), (5, 1), (6, 1)] (by kernel_rfl) (by kernel_rfl) HM4.out ?_
 intro W5 hm6
 have HM7 := Lib.hid hm6
 clear hm6
 refine wS1 [0] ?_
 repeat (go_big_quiet_step (fail))
 refine wpQuiet_nil ?_
 refine wpS_load1 (i := 1) (d := some 6) (u := .int .i64 m.for') rfl (by rfl) rfl rfl (HM7.out.cellL 0 rfl 4) Tryz.underlying3 rfl rfl ?_
 simp only [Act.put, pA, pB, pC]
 have Cd := Mem.cell HM7.out 1 rfl
 refine wS1 [2, 3, 4, 5, 6] ?_
 repeat (go_big_quiet_step (fail))
 refine wpQuiet_nil ?_
 clear Cd
 refine wpS_nil ?_
 refine then_normal ?_
 refine wp_cond_true rfl ?_
 refine wp_seq ?_
 refine wp_seq ?_
 refine wp_region_N [(0, 1), (1, 1), (2, 3), (3, 1)] (by kernel_rfl) ?_
 refine wS1 [0] ?_
 repeat (go_big_quiet_step (fail))
 refine wpQuiet_nil ?_
 refine wpS_load1 (i := 1) (d := some 13) (u := .int .i64 m.for') rfl (by rfl) rfl rfl (HM7.out.cellL 0 rfl 4) Tryz.underlying3 rfl rfl ?_
 simp only [Act.put, pA, pB, pC]
 refine wpS_does1 (i := 2) (d := some 14) (rem := [_, _, _, _, _, _]) (out := [_, _, _, _, _, _]) rfl (by rfl) rfl Tryz.call25 (HN.out) rfl HM7.out [] rfl covS_nil rfl rfl ?_
 rintro W9 hm8 -
 have HM10 := Lib.hid hm8
 clear hm8
 simp only [Act.put, pA, pB, pC]
 refine wS1 [3] ?_
 repeat (go_big_quiet_step (fail))
 refine wpQuiet_nil ?_
 refine wpS_nil ?_
 refine then_normal ?_
 refine wp_cond_true rfl ?_
 refine wp_seq ?_
 refine wp_region_N [(0, 1)] (by kernel_rfl) ?_
 refine wS1 [0] ?_
 repeat (go_big_quiet_step (fail))
 refine wpQuiet_nil ?_
 refine wpS_nil ?_
 refine then_normal ?_
 refine wp_ret ?_
 refine then_ret (then_ret ?_)
 refine bodyPost_ret (results_tmp rfl _ _ _) rfl ?_
 exact hand_nil (s := s) (s' := s) HD.out (Mem.only (M := [_, _, _, _, _]) HM10.out [1, 1, 1, 1, 1] rfl)
set_option maxHeartbeats 4000000 in
set_option maxRecDepth 100000 in
theorem handleAck_on (d : Nat) (s : DS) (pv pq po pc : Nat) (m : InM) (hm : m.mid.length = 55) (hf : ¬ m.for' = s.self) (hn : nodeB m.for' = true) : DoesU Tryz.prog 46 #[.pointer (some ⟨d, 0, none⟩), (.agg m.enc.toArray)] [lanT d s pv pq po pc, viewT pv s.V, queT pq s.Q, ordT po s.self s.O, clkT pc s.C] (fun u => msgsT u (ackD s m).2 :: LP d (ackD s m).1 pv pq po pc) := by
 intro w H hp
 have HM0 := Lib.hid (mem_refl hp)
 clear hp
 have g1 : (m.for' != s.self) = true := by rw [bne_iff_ne]; exact hf
 have HN : Hid (Does Tryz.prog 25 #[.int .i64 m.for'] [] (.bool true) []) := Lib.hid (by have := isNode_d m.for'; rw [hn] at this; exact this)
 have HD : Hid (ackD s m = postD s 2 m.for' m.seq m.for' 0) := Lib.hid (by unfold ackD; rw [if_neg hf, if_pos hn])
 clear hf hn
 go_enter Tryz.func46, Tryz.ntmps46
 refine wp_seq ?_
 refine wp_region_N [(0, 3), (1, 1)] (by kernel_rfl) ?_
 refine wpS_boxA (i := 0) (dd := 3) rfl (by rfl) rfl rfl HM0.out covS_nil rfl ?_
 rintro b3 W2 hm1 -
 have HM4 := Lib.hid hm1
 clear hm1
 simp only [Act.put, pA, pB, pC]
 refine wS1 [1] ?_
 repeat (go_big_quiet_step (fail))
 refine wpQuiet_nil ?_
 refine wpS_nil ?_
 refine then_normal ?_
 refine wp_seq ?_
 refine wp_seq ?_
 refine wp_region_M (fun k => k ∈ ([] : List Nat)) [(0, 1), (1, 1), (2, 1), (3, 1), (4, 1), (5, 1), (6, 1)] (by kernel_rfl) (by kernel_rfl) HM4.out ?_
 intro W5 hm6
 have HM7 := Lib.hid hm6
 clear hm6
 refine wS1 [0] ?_
 repeat (go_big_quiet_step (fail))
 refine wpQuiet_nil ?_
 refine wpS_load1 (i := 1) (d := some 6) (u := .int .i64 m.for') rfl (by rfl) rfl rfl (HM7.out.cellL 0 rfl 4) Tryz.underlying3 rfl rfl ?_
 simp only [Act.put, pA, pB, pC]
 have Cd := Mem.cell HM7.out 1 rfl
 refine wS1 [2, 3, 4, 5, 6] ?_
 repeat (go_big_quiet_step (fail))
 refine wpQuiet_nil ?_
 clear Cd
 refine wpS_nil ?_
 refine then_normal ?_
 refine wp_cond_true rfl ?_
 refine wp_seq ?_
 refine wp_seq ?_
 refine wp_region_N [(0, 1), (1, 1), (2, 3), (3, 1)] (by kernel_rfl) ?_
 refine wS1 [0] ?_
 repeat (go_big_quiet_step (fail))
 refine wpQuiet_nil ?_
 refine wpS_load1 (i := 1) (d := some 13) (u := .int .i64 m.for') rfl (by rfl) rfl rfl (HM7.out.cellL 0 rfl 4) Tryz.underlying3 rfl rfl ?_
 simp only [Act.put, pA, pB, pC]
 refine wpS_does1 (i := 2) (d := some 14) (rem := [_, _, _, _, _, _]) (out := [_, _, _, _, _, _]) rfl (by rfl) rfl Tryz.call25 (HN.out) rfl HM7.out [] rfl covS_nil rfl rfl ?_
 rintro W9 hm8 -
 have HM10 := Lib.hid hm8
 clear hm8
 simp only [Act.put, pA, pB, pC]
 refine wS1 [3] ?_
 repeat (go_big_quiet_step (fail))
 refine wpQuiet_nil ?_
 refine wpS_nil ?_
 refine then_normal ?_
 refine wp_cond_false rfl ?_
 refine wp_skip ?_
 refine then_normal ?_
 refine wp_seq ?_
 refine wp_region_N [(0, 1), (1, 1), (2, 1), (3, 1), (4, 1), (5, 1), (6, 1), (7, 1), (8, 3), (9, 1)] (by kernel_rfl) ?_
 refine wS1 [0, 1] ?_
 repeat (go_big_quiet_step (fail))
 refine wpQuiet_nil ?_
 refine wpS_load1 (i := 2) (d := some 18) (u := .int .i64 m.for') rfl (by rfl) rfl rfl (HM10.out.cellL 0 rfl 4) Tryz.underlying3 rfl rfl ?_
 simp only [Act.put, pA, pB, pC]
 refine wS1 [3] ?_
 repeat (go_big_quiet_step (fail))
 refine wpQuiet_nil ?_
 refine wpS_load1 (i := 4) (d := some 20) (u := .int .i64 m.seq) rfl (by rfl) rfl rfl (HM10.out.cellL 0 rfl 3) Tryz.underlying3 rfl rfl ?_
 simp only [Act.put, pA, pB, pC]
 refine wS1 [5] ?_
 repeat (go_big_quiet_step (fail))
 refine wpQuiet_nil ?_
 refine wpS_load1 (i := 6) (d := some 22) (u := .int .i64 m.for') rfl (by rfl) rfl rfl (HM10.out.cellL 0 rfl 4) Tryz.underlying3 rfl rfl ?_
 simp only [Act.put, pA, pB, pC]
 refine wpS_read (i := 7) (d := some 23) (v := .agg (RawM.enc ⟨2, 0, m.for', m.seq, m.for', 0, none, 0, 0⟩).toArray) rfl (by rfl) (by kernel_rfl) rfl ?_
 simp only [Act.put, pA, pB, pC]
 refine wpS_doesU2 (i := 8) (d := some 24) (rem := [_, _, _]) rfl (by rfl) rfl Tryz.call45 (send_d d s pv pq po pc 2 m.for' m.seq m.for' 0) rfl rfl HM10.out [1, 1, 1] rfl covS_nil (fun _ => rfl) rfl ?_
 rintro u13 W12 hm11 -
 have HM14 := Lib.hid hm11
 clear hm11
 simp only [Act.put, pA, pB, pC]
 refine wS1 [9] ?_
 repeat (go_big_quiet_step (fail))
 refine wpQuiet_nil ?_
 refine wpS_nil ?_
 refine then_normal ?_
 refine wp_ret ?_
 refine then_ret ?_
 refine bodyPost_ret (results_tmp rfl _ _ _) rfl ?_
 exact hand_post HD.out (Mem.only (M := [_, _, _, _, _, _]) HM14.out [0, 0, 0, 0, 1, 1] rfl)
theorem handleAck_d (d : Nat) (s : DS) (pv pq po pc : Nat) (m : InM) (hm : m.mid.length = 55) (hs : LOk s) : DoesU Tryz.prog 46 #[.pointer (some ⟨d, 0, none⟩), .agg m.enc.toArray] (LP d s pv pq po pc) (fun u => msgsT u (ackD s m).2 :: LP d (ackD s m).1 pv pq po pc) := by
 by_cases hf : m.for' = s.self
 ·have h1 := hs.asked
  by_cases ha : s.asked = -1
  ·exact handleAck_idle d s pv pq po pc m hm hf ha
  ·by_cases hq : m.seq = s.seq
   ·exact handleAck_hit d s pv pq po pc m hm hf (by omega) hq
   ·exact handleAck_seq d s pv pq po pc m hm hf (by omega) hq
 ·cases hn : nodeB m.for' with
  | true => exact handleAck_on d s pv pq po pc m hm hf hn
  | false => exact handleAck_no d s pv pq po pc m hm hf hn
set_option maxHeartbeats 4000000 in
set_option maxRecDepth 100000 in
theorem handlePingReq_no (d : Nat) (s : DS) (pv pq po pc : Nat) (m : InM) (hm : m.mid.length = 55) (hn : nodeB m.about = false) : DoesU Tryz.prog 47 #[.pointer (some ⟨d, 0, none⟩), (.agg m.enc.toArray)] [lanT d s pv pq po pc, viewT pv s.V, queT pq s.Q, ordT po s.self s.O, clkT pc s.C] (fun u => msgsT u (pingReqD s m).2 :: LP d (pingReqD s m).1 pv pq po pc) := by
 intro w H hp
 have HM0 := Lib.hid (mem_refl hp)
 clear hp
 have HN : Hid (Does Tryz.prog 25 #[.int .i64 m.about] [] (.bool false) []) := Lib.hid (by have := isNode_d m.about; rw [hn] at this; exact this)
 have HD : Hid (pingReqD s m = (s, [])) := Lib.hid (by unfold pingReqD; rw [if_neg (fun h => by rw [hn] at h; exact absurd h.1 (by decide))])
 clear hn
 go_enter Tryz.func47, Tryz.ntmps47
 refine wp_seq ?_
 refine wp_region_N [(0, 3), (1, 1)] (by kernel_rfl) ?_
 refine wpS_boxA (i := 0) (dd := 3) rfl (by rfl) rfl rfl HM0.out covS_nil rfl ?_
 rintro b3 W2 hm1 -
 have HM4 := Lib.hid hm1
 clear hm1
 simp only [Act.put, pA, pB, pC]
 refine wS1 [1] ?_
 repeat (go_big_quiet_step (fail))
 refine wpQuiet_nil ?_
 refine wpS_nil ?_
 refine then_normal ?_
 refine wp_seq ?_
 refine wp_seq ?_
 refine wp_region_M (fun k => k ∈ ([] : List Nat)) [(0, 1), (1, 1), (2, 3), (3, 1), (4, 1), (5, 1), (6, 1), (7, 1), (8, 1), (9, 1), (10, 1), (11, 1), (12, 1)] (by kernel_rfl) (by kernel_rfl) HM4.out ?_
 intro W5 hm6
 have HM7 := Lib.hid hm6
 clear hm6
 refine wS1 [0] ?_
 repeat (go_big_quiet_step (fail))
 refine wpQuiet_nil ?_
 refine wpS_load1 (i := 1) (d := some 6) (u := .int .i64 m.about) rfl (by rfl) rfl rfl (HM7.out.cellL 0 rfl 5) Tryz.underlying3 rfl rfl ?_
 simp only [Act.put, pA, pB, pC]
 refine wpS_does1 (i := 2) (d := some 7) (rem := [_, _, _, _, _, _]) (out := [_, _, _, _, _, _]) rfl (by rfl) rfl Tryz.call25 (HN.out) rfl HM7.out [] rfl covS_nil rfl rfl ?_
 rintro W9 hm8 -
 have HM10 := Lib.hid hm8
 clear hm8
 simp only [Act.put, pA, pB, pC]
 refine wS1 [3, 4, 5] ?_
 repeat (go_big_quiet_step (fail))
 refine wpQuiet_nil ?_
 refine wpS_skip (i := 6) (d := some 11) rfl (by rfl) rfl ?_
 simp only [Act.put, pA, pB, pC]
 have Cd := Mem.cell HM10.out 1 rfl
 refine wS1 [7, 8, 9, 10, 11, 12] ?_
 repeat (go_big_quiet_step (fail))
 refine wpQuiet_nil ?_
 clear Cd
 refine wpS_nil ?_
 refine then_normal ?_
 refine wp_cond_true rfl ?_
 refine wp_seq ?_
 refine wp_region_N [(0, 1)] (by kernel_rfl) ?_
 refine wS1 [0] ?_
 repeat (go_big_quiet_step (fail))
 refine wpQuiet_nil ?_
 refine wpS_nil ?_
 refine then_normal ?_
 refine wp_ret ?_
 refine then_ret ?_
 refine bodyPost_ret (results_tmp rfl _ _ _) rfl ?_
 exact hand_nil (s := s) (s' := s) HD.out (Mem.only (M := [_, _, _, _, _]) HM10.out [1, 1, 1, 1, 1] rfl)
set_option maxHeartbeats 4000000 in
set_option maxRecDepth 100000 in
theorem handlePingReq_self (d : Nat) (s : DS) (pv pq po pc : Nat) (m : InM) (hm : m.mid.length = 55) (hn : nodeB m.about = true) (hf : m.about = s.self) : DoesU Tryz.prog 47 #[.pointer (some ⟨d, 0, none⟩), (.agg m.enc.toArray)] [lanT d s pv pq po pc, viewT pv s.V, queT pq s.Q, ordT po s.self s.O, clkT pc s.C] (fun u => msgsT u (pingReqD s m).2 :: LP d (pingReqD s m).1 pv pq po pc) := by
 intro w H hp
 have HM0 := Lib.hid (mem_refl hp)
 clear hp
 have HN : Hid (Does Tryz.prog 25 #[.int .i64 m.about] [] (.bool true) []) := Lib.hid (by have := isNode_d m.about; rw [hn] at this; exact this)
 have g1 : (m.about == s.self) = true := by rw [beq_iff_eq]; exact hf
 have HD : Hid (pingReqD s m = (s, [])) := Lib.hid (by unfold pingReqD; rw [if_neg (fun h => h.2 hf)])
 clear hn hf
 go_enter Tryz.func47, Tryz.ntmps47
 refine wp_seq ?_
 refine wp_region_N [(0, 3), (1, 1)] (by kernel_rfl) ?_
 refine wpS_boxA (i := 0) (dd := 3) rfl (by rfl) rfl rfl HM0.out covS_nil rfl ?_
 rintro b3 W2 hm1 -
 have HM4 := Lib.hid hm1
 clear hm1
 simp only [Act.put, pA, pB, pC]
 refine wS1 [1] ?_
 repeat (go_big_quiet_step (fail))
 refine wpQuiet_nil ?_
 refine wpS_nil ?_
 refine then_normal ?_
 refine wp_seq ?_
 refine wp_seq ?_
 refine wp_region_M (fun k => k ∈ ([] : List Nat)) [(0, 1), (1, 1), (2, 3), (3, 1), (4, 1), (5, 1), (6, 1), (7, 1), (8, 1), (9, 1), (10, 1), (11, 1), (12, 1)] (by kernel_rfl) (by kernel_rfl) HM4.out ?_
 intro W5 hm6
 have HM7 := Lib.hid hm6
 clear hm6
 refine wS1 [0] ?_
 repeat (go_big_quiet_step (fail))
 refine wpQuiet_nil ?_
 refine wpS_load1 (i := 1) (d := some 6) (u := .int .i64 m.about) rfl (by rfl) rfl rfl (HM7.out.cellL 0 rfl 5) Tryz.underlying3 rfl rfl ?_
 simp only [Act.put, pA, pB, pC]
 refine wpS_does1 (i := 2) (d := some 7) (rem := [_, _, _, _, _, _]) (out := [_, _, _, _, _, _]) rfl (by rfl) rfl Tryz.call25 (HN.out) rfl HM7.out [] rfl covS_nil rfl rfl ?_
 rintro W9 hm8 -
 have HM10 := Lib.hid hm8
 clear hm8
 simp only [Act.put, pA, pB, pC]
 refine wS1 [3, 4, 5] ?_
 repeat (go_big_quiet_step (fail))
 refine wpQuiet_nil ?_
 refine wpS_load1 (i := 6) (d := some 11) (u := .int .i64 m.about) rfl (by rfl) rfl rfl (HM10.out.cellL 0 rfl 5) Tryz.underlying3 rfl rfl ?_
 simp only [Act.put, pA, pB, pC]
 have Cd := Mem.cell HM10.out 1 rfl
 refine wS1 [7, 8, 9, 10, 11, 12] ?_
 repeat (go_big_quiet_step (fail))
 refine wpQuiet_nil ?_
 clear Cd
 refine wpS_nil ?_
 refine then_normal ?_
 refine wp_cond_true rfl ?_
 refine wp_seq ?_
 refine wp_region_N [(0, 1)] (by kernel_rfl) ?_
 refine wS1 [0] ?_
 repeat (go_big_quiet_step (fail))
 refine wpQuiet_nil ?_
 refine wpS_nil ?_
 refine then_normal ?_
 refine wp_ret ?_
 refine then_ret ?_
 refine bodyPost_ret (results_tmp rfl _ _ _) rfl ?_
 exact hand_nil (s := s) (s' := s) HD.out (Mem.only (M := [_, _, _, _, _]) HM10.out [1, 1, 1, 1, 1] rfl)
set_option maxHeartbeats 4000000 in
set_option maxRecDepth 100000 in
theorem handlePingReq_on (d : Nat) (s : DS) (pv pq po pc : Nat) (m : InM) (hm : m.mid.length = 55) (hn : nodeB m.about = true) (hf : ¬ m.about = s.self) : DoesU Tryz.prog 47 #[.pointer (some ⟨d, 0, none⟩), (.agg m.enc.toArray)] [lanT d s pv pq po pc, viewT pv s.V, queT pq s.Q, ordT po s.self s.O, clkT pc s.C] (fun u => msgsT u (pingReqD s m).2 :: LP d (pingReqD s m).1 pv pq po pc) := by
 intro w H hp
 have HM0 := Lib.hid (mem_refl hp)
 clear hp
 have HN : Hid (Does Tryz.prog 25 #[.int .i64 m.about] [] (.bool true) []) := Lib.hid (by have := isNode_d m.about; rw [hn] at this; exact this)
 have g1 : (m.about == s.self) = false := by rw [beq_eq_false_iff_ne]; exact hf
 have HD : Hid (pingReqD s m = postD s 1 m.about m.seq m.frm 0) := Lib.hid (by unfold pingReqD; rw [if_pos ⟨hn, hf⟩])
 clear hn hf
 go_enter Tryz.func47, Tryz.ntmps47
 refine wp_seq ?_
 refine wp_region_N [(0, 3), (1, 1)] (by kernel_rfl) ?_
 refine wpS_boxA (i := 0) (dd := 3) rfl (by rfl) rfl rfl HM0.out covS_nil rfl ?_
 rintro b3 W2 hm1 -
 have HM4 := Lib.hid hm1
 clear hm1
 simp only [Act.put, pA, pB, pC]
 refine wS1 [1] ?_
 repeat (go_big_quiet_step (fail))
 refine wpQuiet_nil ?_
 refine wpS_nil ?_
 refine then_normal ?_
 refine wp_seq ?_
 refine wp_seq ?_
 refine wp_region_M (fun k => k ∈ ([] : List Nat)) [(0, 1), (1, 1), (2, 3), (3, 1), (4, 1), (5, 1), (6, 1), (7, 1), (8, 1), (9, 1), (10, 1), (11, 1), (12, 1)] (by kernel_rfl) (by kernel_rfl) HM4.out ?_
 intro W5 hm6
 have HM7 := Lib.hid hm6
 clear hm6
 refine wS1 [0] ?_
 repeat (go_big_quiet_step (fail))
 refine wpQuiet_nil ?_
 refine wpS_load1 (i := 1) (d := some 6) (u := .int .i64 m.about) rfl (by rfl) rfl rfl (HM7.out.cellL 0 rfl 5) Tryz.underlying3 rfl rfl ?_
 simp only [Act.put, pA, pB, pC]
 refine wpS_does1 (i := 2) (d := some 7) (rem := [_, _, _, _, _, _]) (out := [_, _, _, _, _, _]) rfl (by rfl) rfl Tryz.call25 (HN.out) rfl HM7.out [] rfl covS_nil rfl rfl ?_
 rintro W9 hm8 -
 have HM10 := Lib.hid hm8
 clear hm8
 simp only [Act.put, pA, pB, pC]
 refine wS1 [3, 4, 5] ?_
 repeat (go_big_quiet_step (fail))
 refine wpQuiet_nil ?_
 refine wpS_load1 (i := 6) (d := some 11) (u := .int .i64 m.about) rfl (by rfl) rfl rfl (HM10.out.cellL 0 rfl 5) Tryz.underlying3 rfl rfl ?_
 simp only [Act.put, pA, pB, pC]
 have Cd := Mem.cell HM10.out 1 rfl
 refine wS1 [7, 8, 9, 10, 11, 12] ?_
 repeat (go_big_quiet_step (fail))
 refine wpQuiet_nil ?_
 clear Cd
 refine wpS_nil ?_
 refine then_normal ?_
 refine wp_cond_false rfl ?_
 refine wp_skip ?_
 refine then_normal ?_
 refine wp_seq ?_
 refine wp_region_N [(0, 1), (1, 1), (2, 1), (3, 1), (4, 1), (5, 1), (6, 1), (7, 1), (8, 3), (9, 1)] (by kernel_rfl) ?_
 refine wS1 [0, 1] ?_
 repeat (go_big_quiet_step (fail))
 refine wpQuiet_nil ?_
 refine wpS_load1 (i := 2) (d := some 20) (u := .int .i64 m.about) rfl (by rfl) rfl rfl (HM10.out.cellL 0 rfl 5) Tryz.underlying3 rfl rfl ?_
 simp only [Act.put, pA, pB, pC]
 refine wS1 [3] ?_
 repeat (go_big_quiet_step (fail))
 refine wpQuiet_nil ?_
 refine wpS_load1 (i := 4) (d := some 22) (u := .int .i64 m.seq) rfl (by rfl) rfl rfl (HM10.out.cellL 0 rfl 3) Tryz.underlying3 rfl rfl ?_
 simp only [Act.put, pA, pB, pC]
 refine wS1 [5] ?_
 repeat (go_big_quiet_step (fail))
 refine wpQuiet_nil ?_
 refine wpS_load1 (i := 6) (d := some 24) (u := .int .i64 m.frm) rfl (by rfl) rfl rfl (HM10.out.cellL 0 rfl 1) Tryz.underlying3 rfl rfl ?_
 simp only [Act.put, pA, pB, pC]
 refine wpS_read (i := 7) (d := some 25) (v := .agg (RawM.enc ⟨1, 0, m.about, m.seq, m.frm, 0, none, 0, 0⟩).toArray) rfl (by rfl) (by kernel_rfl) rfl ?_
 simp only [Act.put, pA, pB, pC]
 refine wpS_doesU2 (i := 8) (d := some 26) (rem := [_, _, _]) rfl (by rfl) rfl Tryz.call45 (send_d d s pv pq po pc 1 m.about m.seq m.frm 0) rfl rfl HM10.out [1, 1, 1] rfl covS_nil (fun _ => rfl) rfl ?_
 rintro u13 W12 hm11 -
 have HM14 := Lib.hid hm11
 clear hm11
 simp only [Act.put, pA, pB, pC]
 refine wS1 [9] ?_
 repeat (go_big_quiet_step (fail))
 refine wpQuiet_nil ?_
 refine wpS_nil ?_
 refine then_normal ?_
 refine wp_ret ?_
 refine bodyPost_ret (results_tmp rfl _ _ _) rfl ?_
 exact hand_post HD.out (Mem.only (M := [_, _, _, _, _, _]) HM14.out [0, 0, 0, 0, 1, 1] rfl)
theorem handlePingReq_d (d : Nat) (s : DS) (pv pq po pc : Nat) (m : InM) (hm : m.mid.length = 55) : DoesU Tryz.prog 47 #[.pointer (some ⟨d, 0, none⟩), .agg m.enc.toArray] (LP d s pv pq po pc) (fun u => msgsT u (pingReqD s m).2 :: LP d (pingReqD s m).1 pv pq po pc) := by
 cases hn : nodeB m.about with
 | false => exact handlePingReq_no d s pv pq po pc m hm hn
 | true =>
  by_cases hf : m.about = s.self
  ·exact handlePingReq_self d s pv pq po pc m hm hn hf
  ·exact handlePingReq_on d s pv pq po pc m hm hn hf
end Go.Proofs.YtjbihgfdgaiecaaGreat
