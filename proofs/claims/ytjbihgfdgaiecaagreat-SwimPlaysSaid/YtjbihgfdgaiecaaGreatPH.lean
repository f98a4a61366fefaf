/- The landed detector: Handle. -/
import Derived.Test.YtjbihgfdgaiecaaGreatPG
import Derived.Test.YtjbihgfdgaiecaaGreatPL
namespace Go.Proofs.YtjbihgfdgaiecaaGreat
open Go Go.RowKit Go.BigFrame
theorem lok_heardL : ∀ (l : List Cl) {s : DS}, LOk s → LOk (l.foldl (fun s c => if nothingK c then s else (hearD s c).1) s)
 | [], _, h => h
 | c :: l, s, h => by
  rw [List.foldl_cons]
  refine lok_heardL l ?_
  split
  ·exact h
  ·exact lok_hear h c
theorem lok_heardM {s : DS} (h : LOk s) (l : List Cl) : LOk (heardM s l) := lok_heardL _ h
theorem lok_fromD {s : DS} (h : LOk s) (frm : Int) : LOk (fromD s frm) := by
 unfold fromD
 split
 ·exact h
 ·exact lok_hear h _
def handL (s : DS) (m : InM) : DS × List MM :=
 if m.kind = 1 then postD s 2 m.frm m.seq m.for' 0 else if m.kind = 2 then ackD s m else if m.kind = 3 then pingReqD s m else (s, [])
theorem handleD_pass {s : DS} {m : InM} {l : List Cl} (h0 : m.dst = s.self) (h1 : nodeB m.frm = true) (h2 : ¬ m.frm = s.self) : handleD s (m.mm l) = handL (fromD (heardM s l) m.frm) m := by
 unfold handleD InM.mm handL
 dsimp only
 rw [if_neg (by rintro (h | h | h); exact h h0; (rw [h1] at h; cases h); exact h2 h)]
 generalize fromD (heardM s l) m.frm = s1
 unfold ackD pingReqD postD
 by_cases k1 : m.kind = 1
 ·rw [if_pos k1, if_neg (by omega), if_pos k1]
 ·rw [if_neg k1, if_neg k1]
  by_cases k2 : m.kind = 2
  ·rw [if_pos k2]
   by_cases hf : m.for' = s1.self
   ·rw [if_pos ⟨k2, hf⟩, if_pos hf]
    split <;> rfl
   ·rw [if_neg (fun h => hf h.2), if_neg hf]
    by_cases hl : s1.left = true
    ·rw [if_pos hl]
     split <;> rfl
    ·rw [if_neg hl]
     by_cases hn : nodeB m.for' = true
     ·rw [if_pos ⟨k2, hn⟩, if_pos hn, if_neg hl]
     ·rw [if_neg (fun h => hn h.2), if_neg (by omega), if_neg hn]
  ·rw [if_neg k2, if_neg (fun h => k2 h.1)]
   by_cases k3 : m.kind = 3
   ·rw [if_pos k3]
    by_cases hl : s1.left = true
    ·rw [if_pos hl]
     split <;> rfl
    ·rw [if_neg hl, if_neg (fun h => k2 h.1)]
     by_cases hn : nodeB m.about = true ∧ m.about ≠ s1.self
     ·rw [if_pos ⟨k3, hn⟩, if_pos hn, if_neg hl]
     ·rw [if_neg (fun h => hn h.2), if_neg hn]
   ·rw [if_neg k3]
    split
    ·rfl
    ·rw [if_neg (fun h => k2 h.1), if_neg (fun h => k3 h.1)]
theorem handR_nil {d : Nat} {s' : DS} {pv pq po pc : Nat} {R : At} {H : Nat → Prop} {w W : World} {r : DS × List MM} (hD : r = (s', [])) (hm : Mem (R :: LP d s' pv pq po pc) H w W) : ∃ u, Ending.returned (.slice none 0 0) = .returned u ∧ SEnd (stars (msgsT u r.2 :: R :: LP d r.1 pv pq po pc)) H w W := by
 rw [hD]
 exact ⟨_, rfl, msgs_nil hm⟩
theorem handR_post {d : Nat} {s : DS} {pv pq po pc : Nat} {R : At} {H : Nat → Prop} {w W : World} {u : Value} {r : DS × List MM} {kind dst seq fo ab : Int} (hD : r = postD s kind dst seq fo ab) (hm : Mem [msgsT u (postD s kind dst seq fo ab).2, R, lanT d s pv pq po pc, viewT pv s.V, queT pq (postD s kind dst seq fo ab).1.Q, ordT po s.self s.O, clkT pc s.C] H w W) : ∃ v, Ending.returned u = .returned v ∧ SEnd (stars (msgsT v r.2 :: R :: LP d r.1 pv pq po pc)) H w W := by
 rw [hD]
 obtain ⟨Q, hQ⟩ := postD_rest s kind dst seq fo ab
 rw [hQ] at hm ⊢
 exact ⟨_, rfl, hm⟩
theorem handR_same {d : Nat} {pv pq po pc : Nat} {R : At} {H : Nat → Prop} {w W : World} {u : Value} {r r' : DS × List MM} (hD : r = r') (hm : Mem (msgsT u r'.2 :: R :: LP d r'.1 pv pq po pc) H w W) : ∃ v, Ending.returned u = .returned v ∧ SEnd (stars (msgsT v r.2 :: R :: LP d r.1 pv pq po pc)) H w W := by
 rw [hD]
 exact ⟨_, rfl, hm⟩
set_option maxHeartbeats 4000000 in
set_option maxRecDepth 100000 in
theorem handle_bad0 (d : Nat) (s : DS) (pv pq po pc : Nat) (R : At) (m : InM) (l : List Cl) (hR : ∀ W H, R.p W H → RowAt elemCl W (.slice m.p m.n m.cap) l) (hl : l.length ≤ 1000) (hm : m.mid.length = 55) (hs : LOk s) (h0 : ¬ m.dst = s.self) : DoesU Tryz.prog 13 #[.pointer (some ⟨d, 0, none⟩), (.agg m.enc.toArray)] (R :: LP d s pv pq po pc) (fun u => msgsT u (handleD s (m.mm l)).2 :: R :: LP d (handleD s (m.mm l)).1 pv pq po pc) := by
 intro w H hp
 have HM0 := Lib.hid (mem_refl hp)
 clear hp
 have g1 : (m.dst != s.self) = true := by rw [bne_iff_ne]; exact h0
 have HD : Hid (handleD s (m.mm l) = (s, [])) := Lib.hid (by unfold handleD InM.mm; dsimp only; rw [if_pos (.inl h0)])
 clear h0
 go_enter Tryz.func13, Tryz.ntmps13
 refine wp_seq ?_
 refine wp_region_N [(0, 3), (1, 1)] (by kernel_rfl) ?_
 refine wpS_boxA (i := 0) (dd := 3) rfl (by rfl) rfl rfl HM0.out covS_nil rfl ?_
 rintro b3 W2 hm1 -
 have HM4 := Lib.hid hm1
 clear hm1
 simp only [Act.put, pA, pB, pC]
 refine wS1 [1] ?_
 repeat (go_big_quiet_step (fail))
 refine wpQuiet_nil ?_
 refine wpS_nil ?_
 refine then_normal ?_
 refine wp_seq ?_
 refine wp_seq ?_
 refine wp_region_M (fun k => k ∈ ([] : List Nat)) [(0, 1), (1, 1), (2, 1), (3, 1), (4, 1), (5, 1), (6, 1), (7, 1), (8, 1), (9, 1), (10, 1), (11, 1), (12, 1), (13, 1), (14, 3), (15, 1), (16, 1), (17, 1), (18, 1), (19, 1), (20, 1), (21, 1), (22, 1), (23, 1), (24, 1), (25, 1)] (by kernel_rfl) (by kernel_rfl) HM4.out ?_
 intro W5 hm6
 have HM7 := Lib.hid hm6
 clear hm6
 refine wS1 [0, 1, 2, 3] ?_
 repeat (go_big_quiet_step (fail))
 refine wpQuiet_nil ?_
 refine wpS_load1 (i := 4) (d := some 9) (u := .int .i64 m.dst) rfl (by rfl) rfl rfl (HM7.out.cellL 0 rfl 2) Tryz.underlying3 rfl rfl ?_
 simp only [Act.put, pA, pB, pC]
 have Cd := Mem.cell HM7.out 2 rfl
 refine wS1 [5, 6, 7, 8, 9, 10, 11, 12] ?_
 repeat (go_big_quiet_step (fail))
 refine wpQuiet_nil ?_
 clear Cd
 refine wpS_skip (i := 13) (d := some 18) rfl (by rfl) rfl ?_
 simp only [Act.put, pA, pB, pC]
 refine wpS_skip (i := 14) (d := some 19) rfl (by rfl) rfl ?_
 simp only [Act.put, pA, pB, pC]
 refine wS1 [15, 16, 17, 18] ?_
 repeat (go_big_quiet_step (fail))
 refine wpQuiet_nil ?_
 refine wpS_skip (i := 19) (d := some 24) rfl (by rfl) rfl ?_
 simp only [Act.put, pA, pB, pC]
 have Cd := Mem.cell HM7.out 2 rfl
 refine wS1 [20, 21, 22, 23, 24, 25] ?_
 repeat (go_big_quiet_step (fail))
 refine wpQuiet_nil ?_
 clear Cd
 refine wpS_nil ?_
 refine then_normal ?_
 refine wp_cond_true rfl ?_
 refine wp_seq ?_
 refine wp_region_N [(0, 1)] (by kernel_rfl) ?_
 refine wS1 [0] ?_
 repeat (go_big_quiet_step (fail))
 refine wpQuiet_nil ?_
 refine wpS_nil ?_
 refine then_normal ?_
 refine wp_ret ?_
 refine then_ret ?_
 refine bodyPost_ret (results_tmp rfl _ _ _) rfl ?_
 exact handR_nil HD.out (Mem.only (M := [_, _, _, _, _, _]) HM7.out [1, 1, 1, 1, 1, 1] rfl)
set_option maxHeartbeats 4000000 in
set_option maxRecDepth 100000 in
theorem handle_bad1 (d : Nat) (s : DS) (pv pq po pc : Nat) (R : At) (m : InM) (l : List Cl) (hR : ∀ W H, R.p W H → RowAt elemCl W (.slice m.p m.n m.cap) l) (hl : l.length ≤ 1000) (hm : m.mid.length = 55) (hs : LOk s) (h0 : m.dst = s.self) (h1 : nodeB m.frm = false) : DoesU Tryz.prog 13 #[.pointer (some ⟨d, 0, none⟩), (.agg m.enc.toArray)] (R :: LP d s pv pq po pc) (fun u => msgsT u (handleD s (m.mm l)).2 :: R :: LP d (handleD s (m.mm l)).1 pv pq po pc) := by
 intro w H hp
 have HM0 := Lib.hid (mem_refl hp)
 clear hp
 have g1 : (m.dst != s.self) = false := by rw [bne_eq_false_iff_eq]; exact h0
 have HN : Hid (Does Tryz.prog 25 #[.int .i64 m.frm] [] (.bool false) []) := Lib.hid (by have := isNode_d m.frm; rw [h1] at this; exact this)
 have HD : Hid (handleD s (m.mm l) = (s, [])) := Lib.hid (by unfold handleD InM.mm; dsimp only; rw [if_pos (.inr (.inl h1))])
 clear h0 h1
 go_enter Tryz.func13, Tryz.ntmps13
 refine wp_seq ?_
 refine wp_region_N [(0, 3), (1, 1)] (by kernel_rfl) ?_
 refine wpS_boxA (i := 0) (dd := 3) rfl (by rfl) rfl rfl HM0.out covS_nil rfl ?_
 rintro b3 W2 hm1 -
 have HM4 := Lib.hid hm1
 clear hm1
 simp only [Act.put, pA, pB, pC]
 refine wS1 [1] ?_
 repeat (go_big_quiet_step (fail))
 refine wpQuiet_nil ?_
 refine wpS_nil ?_
 refine then_normal ?_
 refine wp_seq ?_
 refine wp_seq ?_
 refine wp_region_M (fun k => k ∈ ([] : List Nat)) [(0, 1), (1, 1), (2, 1), (3, 1), (4, 1), (5, 1), (6, 1), (7, 1), (8, 1), (9, 1), (10, 1), (11, 1), (12, 1), (13, 1), (14, 3), (15, 1), (16, 1), (17, 1), (18, 1), (19, 1), (20, 1), (21, 1), (22, 1), (23, 1), (24, 1), (25, 1)] (by kernel_rfl) (by kernel_rfl) HM4.out ?_
 intro W5 hm6
 have HM7 := Lib.hid hm6
 clear hm6
 refine wS1 [0, 1, 2, 3] ?_
 repeat (go_big_quiet_step (fail))
 refine wpQuiet_nil ?_
 refine wpS_load1 (i := 4) (d := some 9) (u := .int .i64 m.dst) rfl (by rfl) rfl rfl (HM7.out.cellL 0 rfl 2) Tryz.underlying3 rfl rfl ?_
 simp only [Act.put, pA, pB, pC]
 have Cd := Mem.cell HM7.out 2 rfl
 refine wS1 [5, 6, 7, 8, 9, 10, 11, 12] ?_
 repeat (go_big_quiet_step (fail))
 refine wpQuiet_nil ?_
 clear Cd
 refine wpS_load1 (i := 13) (d := some 18) (u := .int .i64 m.frm) rfl (by rfl) rfl rfl (HM7.out.cellL 0 rfl 1) Tryz.underlying3 rfl rfl ?_
 simp only [Act.put, pA, pB, pC]
 refine wpS_does1 (i := 14) (d := some 19) (rem := [_, _, _, _, _, _, _]) (out := [_, _, _, _, _, _, _]) rfl (by rfl) rfl Tryz.call25 (HN.out) rfl HM7.out [] rfl covS_nil rfl rfl ?_
 rintro W9 hm8 -
 have HM10 := Lib.hid hm8
 clear hm8
 simp only [Act.put, pA, pB, pC]
 refine wS1 [15, 16, 17, 18] ?_
 repeat (go_big_quiet_step (fail))
 refine wpQuiet_nil ?_
 refine wpS_skip (i := 19) (d := some 24) rfl (by rfl) rfl ?_
 simp only [Act.put, pA, pB, pC]
 have Cd := Mem.cell HM10.out 2 rfl
 refine wS1 [20, 21, 22, 23, 24, 25] ?_
 repeat (go_big_quiet_step (fail))
 refine wpQuiet_nil ?_
 clear Cd
 refine wpS_nil ?_
 refine then_normal ?_
 refine wp_cond_true rfl ?_
 refine wp_seq ?_
 refine wp_region_N [(0, 1)] (by kernel_rfl) ?_
 refine wS1 [0] ?_
 repeat (go_big_quiet_step (fail))
 refine wpQuiet_nil ?_
 refine wpS_nil ?_
 refine then_normal ?_
 refine wp_ret ?_
 refine then_ret ?_
 refine bodyPost_ret (results_tmp rfl _ _ _) rfl ?_
 exact handR_nil HD.out (Mem.only (M := [_, _, _, _, _, _]) HM10.out [1, 1, 1, 1, 1, 1] rfl)
set_option maxHeartbeats 4000000 in
set_option maxRecDepth 100000 in
theorem handle_bad2 (d : Nat) (s : DS) (pv pq po pc : Nat) (R : At) (m : InM) (l : List Cl) (hR : ∀ W H, R.p W H → RowAt elemCl W (.slice m.p m.n m.cap) l) (hl : l.length ≤ 1000) (hm : m.mid.length = 55) (hs : LOk s) (h0 : m.dst = s.self) (h1 : nodeB m.frm = true) (h2 : m.frm = s.self) : DoesU Tryz.prog 13 #[.pointer (some ⟨d, 0, none⟩), (.agg m.enc.toArray)] (R :: LP d s pv pq po pc) (fun u => msgsT u (handleD s (m.mm l)).2 :: R :: LP d (handleD s (m.mm l)).1 pv pq po pc) := by
 intro w H hp
 have HM0 := Lib.hid (mem_refl hp)
 clear hp
 have g1 : (m.dst != s.self) = false := by rw [bne_eq_false_iff_eq]; exact h0
 have HN : Hid (Does Tryz.prog 25 #[.int .i64 m.frm] [] (.bool true) []) := Lib.hid (by have := isNode_d m.frm; rw [h1] at this; exact this)
 have g2 : (m.frm == s.self) = true := by rw [beq_iff_eq]; exact h2
 have HD : Hid (handleD s (m.mm l) = (s, [])) := Lib.hid (by unfold handleD InM.mm; dsimp only; rw [if_pos (.inr (.inr h2))])
 clear h0 h1 h2
 go_enter Tryz.func13, Tryz.ntmps13
 refine wp_seq ?_
 refine wp_region_N [(0, 3), (1, 1)] (by kernel_rfl) ?_
 refine wpS_boxA (i := 0) (dd := 3) rfl (by rfl) rfl rfl HM0.out covS_nil rfl ?_
 rintro b3 W2 hm1 -
 have HM4 := Lib.hid hm1
 clear hm1
 simp only [Act.put, pA, pB, pC]
 refine wS1 [1] ?_
 repeat (go_big_quiet_step (fail))
 refine wpQuiet_nil ?_
 refine wpS_nil ?_
 refine then_normal ?_
 refine wp_seq ?_
 refine wp_seq ?_
 refine wp_region_M (fun k => k ∈ ([] : List Nat)) [(0, 1), (1, 1), (2, 1), (3, 1), (4, 1), (5, 1), (6, 1), (7, 1), (8, 1), (9, 1), (10, 1), (11, 1), (12, 1), (13, 1), (14, 3), (15, 1), (16, 1), (17, 1), (18, 1), (19, 1), (20, 1), (21, 1), (22, 1), (23, 1), (24, 1), (25, 1)] (by kernel_rfl) (by kernel_rfl) HM4.out ?_
 intro W5 hm6
 have HM7 := Lib.hid hm6
 clear hm6
 refine wS1 [0, 1, 2, 3] ?_
 repeat (go_big_quiet_step (fail))
 refine wpQuiet_nil ?_
 refine wpS_load1 (i := 4) (d := some 9) (u := .int .i64 m.dst) rfl (by rfl) rfl rfl (HM7.out.cellL 0 rfl 2) Tryz.underlying3 rfl rfl ?_
 simp only [Act.put, pA, pB, pC]
 have Cd := Mem.cell HM7.out 2 rfl
 refine wS1 [5, 6, 7, 8, 9, 10, 11, 12] ?_
 repeat (go_big_quiet_step (fail))
 refine wpQuiet_nil ?_
 clear Cd
 refine wpS_load1 (i := 13) (d := some 18) (u := .int .i64 m.frm) rfl (by rfl) rfl rfl (HM7.out.cellL 0 rfl 1) Tryz.underlying3 rfl rfl ?_
 simp only [Act.put, pA, pB, pC]
 refine wpS_does1 (i := 14) (d := some 19) (rem := [_, _, _, _, _, _, _]) (out := [_, _, _, _, _, _, _]) rfl (by rfl) rfl Tryz.call25 (HN.out) rfl HM7.out [] rfl covS_nil rfl rfl ?_
 rintro W9 hm8 -
 have HM10 := Lib.hid hm8
 clear hm8
 simp only [Act.put, pA, pB, pC]
 refine wS1 [15, 16, 17, 18] ?_
 repeat (go_big_quiet_step (fail))
 refine wpQuiet_nil ?_
 refine wpS_load1 (i := 19) (d := some 24) (u := .int .i64 m.frm) rfl (by rfl) rfl rfl (HM10.out.cellL 0 rfl 1) Tryz.underlying3 rfl rfl ?_
 simp only [Act.put, pA, pB, pC]
 have Cd := Mem.cell HM10.out 2 rfl
 refine wS1 [20, 21, 22, 23, 24, 25] ?_
 repeat (go_big_quiet_step (fail))
 refine wpQuiet_nil ?_
 clear Cd
 refine wpS_nil ?_
 refine then_normal ?_
 refine wp_cond_true rfl ?_
 refine wp_seq ?_
 refine wp_region_N [(0, 1)] (by kernel_rfl) ?_
 refine wS1 [0] ?_
 repeat (go_big_quiet_step (fail))
 refine wpQuiet_nil ?_
 refine wpS_nil ?_
 refine then_normal ?_
 refine wp_ret ?_
 refine then_ret ?_
 refine bodyPost_ret (results_tmp rfl _ _ _) rfl ?_
 exact handR_nil HD.out (Mem.only (M := [_, _, _, _, _, _]) HM10.out [1, 1, 1, 1, 1, 1] rfl)
set_option maxHeartbeats 4000000 in
set_option maxRecDepth 100000 in
theorem handle_ping (d : Nat) (s : DS) (pv pq po pc : Nat) (R : At) (m : InM) (l : List Cl) (hR : ∀ W H, R.p W H → RowAt elemCl W (.slice m.p m.n m.cap) l) (hl : l.length ≤ 1000) (hm : m.mid.length = 55) (hs : LOk s) (h0 : m.dst = s.self) (h1 : nodeB m.frm = true) (h2 : ¬ m.frm = s.self) (hk : m.kind = 1) : DoesU Tryz.prog 13 #[.pointer (some ⟨d, 0, none⟩), (.agg m.enc.toArray)] (R :: LP d s pv pq po pc) (fun u => msgsT u (handleD s (m.mm l)).2 :: R :: LP d (handleD s (m.mm l)).1 pv pq po pc) := by
 intro w H hp
 have HM0 := Lib.hid (mem_refl hp)
 clear hp
 have g1 : (m.dst != s.self) = false := by rw [bne_eq_false_iff_eq]; exact h0
 have HN : Hid (Does Tryz.prog 25 #[.int .i64 m.frm] [] (.bool true) []) := Lib.hid (by have := isNode_d m.frm; rw [h1] at this; exact this)
 have g2 : (m.frm == s.self) = false := by rw [beq_eq_false_iff_ne]; exact h2
 have hf : 0 ≤ m.frm ∧ m.frm < 8 := by simpa [nodeB] using h1
 have hD := handleD_pass (s := s) (m := m) (l := l) h0 h1 h2
 have HSP := Lib.hid (hearSpeak_d d (heardM s l) pv pq po pc m.frm (lok_heardM hs l) hf)
 have gk1 : (m.kind == 1) = true := by rw [beq_iff_eq]; exact (by omega)
 have gk2 : (m.kind == 2) = false := by rw [beq_eq_false_iff_ne]; exact (by omega)
 have gk3 : (m.kind == 3) = false := by rw [beq_eq_false_iff_ne]; exact (by omega)
 have HD : Hid (handleD s (m.mm l) = postD (fromD (heardM s l) m.frm) 2 m.frm m.seq m.for' 0) := Lib.hid (by rw [hD]; unfold handL; rw [if_pos hk])
 clear h0 h1 h2 hk hf hD
 go_enter Tryz.func13, Tryz.ntmps13
 refine wp_seq ?_
 refine wp_region_N [(0, 3), (1, 1)] (by kernel_rfl) ?_
 refine wpS_boxA (i := 0) (dd := 3) rfl (by rfl) rfl rfl HM0.out covS_nil rfl ?_
 rintro b3 W2 hm1 -
 have HM4 := Lib.hid hm1
 clear hm1
 simp only [Act.put, pA, pB, pC]
 refine wS1 [1] ?_
 repeat (go_big_quiet_step (fail))
 refine wpQuiet_nil ?_
 refine wpS_nil ?_
 refine then_normal ?_
 refine wp_seq ?_
 refine wp_seq ?_
 refine wp_region_M (fun k => k ∈ ([] : List Nat)) [(0, 1), (1, 1), (2, 1), (3, 1), (4, 1), (5, 1), (6, 1), (7, 1), (8, 1), (9, 1), (10, 1), (11, 1), (12, 1), (13, 1), (14, 3), (15, 1), (16, 1), (17, 1), (18, 1), (19, 1), (20, 1), (21, 1), (22, 1), (23, 1), (24, 1), (25, 1)] (by kernel_rfl) (by kernel_rfl) HM4.out ?_
 intro W5 hm6
 have HM7 := Lib.hid hm6
 clear hm6
 refine wS1 [0, 1, 2, 3] ?_
 repeat (go_big_quiet_step (fail))
 refine wpQuiet_nil ?_
 refine wpS_load1 (i := 4) (d := some 9) (u := .int .i64 m.dst) rfl (by rfl) rfl rfl (HM7.out.cellL 0 rfl 2) Tryz.underlying3 rfl rfl ?_
 simp only [Act.put, pA, pB, pC]
 have Cd := Mem.cell HM7.out 2 rfl
 refine wS1 [5, 6, 7, 8, 9, 10, 11, 12] ?_
 repeat (go_big_quiet_step (fail))
 refine wpQuiet_nil ?_
 clear Cd
 refine wpS_load1 (i := 13) (d := some 18) (u := .int .i64 m.frm) rfl (by rfl) rfl rfl (HM7.out.cellL 0 rfl 1) Tryz.underlying3 rfl rfl ?_
 simp only [Act.put, pA, pB, pC]
 refine wpS_does1 (i := 14) (d := some 19) (rem := [_, _, _, _, _, _, _]) (out := [_, _, _, _, _, _, _]) rfl (by rfl) rfl Tryz.call25 (HN.out) rfl HM7.out [] rfl covS_nil rfl rfl ?_
 rintro W9 hm8 -
 have HM10 := Lib.hid hm8
 clear hm8
 simp only [Act.put, pA, pB, pC]
 refine wS1 [15, 16, 17, 18] ?_
 repeat (go_big_quiet_step (fail))
 refine wpQuiet_nil ?_
 refine wpS_load1 (i := 19) (d := some 24) (u := .int .i64 m.frm) rfl (by rfl) rfl rfl (HM10.out.cellL 0 rfl 1) Tryz.underlying3 rfl rfl ?_
 simp only [Act.put, pA, pB, pC]
 have Cd := Mem.cell HM10.out 2 rfl
 refine wS1 [20, 21, 22, 23, 24, 25] ?_
 repeat (go_big_quiet_step (fail))
 refine wpQuiet_nil ?_
 clear Cd
 refine wpS_nil ?_
 refine then_normal ?_
 refine wp_cond_false rfl ?_
 refine wp_skip ?_
 refine then_normal ?_
 refine wp_seq ?_
 refine wp_region_N [(0, 1), (1, 1), (2, 1), (3, 3)] (by kernel_rfl) ?_
 refine wS1 [0, 1] ?_
 repeat (go_big_quiet_step (fail))
 refine wpQuiet_nil ?_
 refine wpS_load1 (i := 2) (d := some 33) (u := .slice m.p m.n m.cap) rfl (by rfl) rfl rfl ((inAt hm (HM10.out.box 0 rfl)).c61) Tryz.underlying44 rfl rfl ?_
 simp only [Act.put, pA, pB, pC]
 refine wpS_does2 (i := 3) (d := some 34) (rem := [_]) (out := [_, _, _, _, _, _, _]) rfl (by rfl) rfl Tryz.call43 (hearFirst_d d s pv pq po pc R _ l hR hl hs) rfl rfl HM10.out [1, 1, 1, 1, 1, 1] rfl covS_nil rfl rfl ?_
 rintro W12 hm11 -
 have HM13 := Lib.hid hm11
 clear hm11
 simp only [Act.put, pA, pB, pC]
 refine wpS_nil ?_
 refine then_normal ?_
 refine wp_seq ?_
 refine wp_region_N [(0, 1), (1, 1), (2, 1), (3, 3)] (by kernel_rfl) ?_
 refine wS1 [0, 1] ?_
 repeat (go_big_quiet_step (fail))
 refine wpQuiet_nil ?_
 refine wpS_load1 (i := 2) (d := some 37) (u := .int .i64 m.frm) rfl (by rfl) rfl rfl (HM13.out.cellL 6 rfl 1) Tryz.underlying3 rfl rfl ?_
 simp only [Act.put, pA, pB, pC]
 refine wpS_does2 (i := 3) (d := some 38) (rem := [_, _]) (out := [_, _, _, _, _, _, _]) rfl (by rfl) rfl Tryz.call44 (HSP.out) rfl rfl HM13.out [1, 1, 1, 1, 1] rfl covS_nil rfl rfl ?_
 rintro W15 hm14 -
 have HM16 := Lib.hid hm14
 clear hm14
 simp only [Act.put, pA, pB, pC]
 refine wpS_nil ?_
 refine then_normal ?_
 refine wp_seq ?_
 refine wp_seq ?_
 refine wp_region_N [(0, 1), (1, 1)] (by kernel_rfl) ?_
 refine wS1 [0] ?_
 repeat (go_big_quiet_step (fail))
 refine wpQuiet_nil ?_
 refine wpS_load1 (i := 1) (d := some 40) (u := .int .i64 m.kind) rfl (by rfl) rfl rfl (HM16.out.cellL 6 rfl 0) Tryz.underlying3 rfl rfl ?_
 simp only [Act.put, pA, pB, pC]
 refine wpS_nil ?_
 refine then_normal ?_
 refine wp_block ?_
 refine wp_seq ?_
 refine wp_region_N [(0, 1), (1, 1)] (by kernel_rfl) ?_
 refine wS1 [0, 1] ?_
 repeat (go_big_quiet_step (fail))
 refine wpQuiet_nil ?_
 refine wpS_nil ?_
 refine then_normal ?_
 refine wp_cond_true rfl ?_
 refine wp_seq ?_
 refine wp_region_N [(0, 1), (1, 1), (2, 1), (3, 1), (4, 1), (5, 1), (6, 1), (7, 1), (8, 3), (9, 1)] (by kernel_rfl) ?_
 refine wS1 [0, 1] ?_
 repeat (go_big_quiet_step (fail))
 refine wpQuiet_nil ?_
 refine wpS_load1 (i := 2) (d := some 45) (u := .int .i64 m.frm) rfl (by rfl) rfl rfl (HM16.out.cellL 6 rfl 1) Tryz.underlying3 rfl rfl ?_
 simp only [Act.put, pA, pB, pC]
 refine wS1 [3] ?_
 repeat (go_big_quiet_step (fail))
 refine wpQuiet_nil ?_
 refine wpS_load1 (i := 4) (d := some 47) (u := .int .i64 m.seq) rfl (by rfl) rfl rfl (HM16.out.cellL 6 rfl 3) Tryz.underlying3 rfl rfl ?_
 simp only [Act.put, pA, pB, pC]
 refine wS1 [5] ?_
 repeat (go_big_quiet_step (fail))
 refine wpQuiet_nil ?_
 refine wpS_load1 (i := 6) (d := some 49) (u := .int .i64 m.for') rfl (by rfl) rfl rfl (HM16.out.cellL 6 rfl 4) Tryz.underlying3 rfl rfl ?_
 simp only [Act.put, pA, pB, pC]
 refine wpS_read (i := 7) (d := some 50) (v := .agg (RawM.enc ⟨2, 0, m.frm, m.seq, m.for', 0, none, 0, 0⟩).toArray) rfl (by rfl) (by kernel_rfl) rfl ?_
 simp only [Act.put, pA, pB, pC]
 refine wpS_doesU2 (i := 8) (d := some 51) (rem := [_, _, _, _]) rfl (by rfl) rfl Tryz.call45 (send_d d (fromD (heardM s l) m.frm) pv pq po pc 2 m.frm m.seq m.for' 0) rfl rfl HM16.out [0, 0, 0] rfl covS_nil (fun _ => rfl) rfl ?_
 rintro u19 W18 hm17 -
 have HM20 := Lib.hid hm17
 clear hm17
 simp only [Act.put, pA, pB, pC]
 refine wS1 [9] ?_
 repeat (go_big_quiet_step (fail))
 refine wpQuiet_nil ?_
 refine wpS_nil ?_
 refine then_normal ?_
 refine wp_ret ?_
 refine block_ret (then_ret ?_)
 refine bodyPost_ret (results_tmp rfl _ _ _) rfl ?_
 exact handR_post HD.out (Mem.only (M := [_, _, _, _, _, _, _]) HM20.out [0, 5, 0, 0, 0, 0, 0] rfl)
set_option maxHeartbeats 4000000 in
set_option maxRecDepth 100000 in
theorem handle_ack (d : Nat) (s : DS) (pv pq po pc : Nat) (R : At) (m : InM) (l : List Cl) (hR : ∀ W H, R.p W H → RowAt elemCl W (.slice m.p m.n m.cap) l) (hl : l.length ≤ 1000) (hm : m.mid.length = 55) (hs : LOk s) (h0 : m.dst = s.self) (h1 : nodeB m.frm = true) (h2 : ¬ m.frm = s.self) (hk : m.kind = 2) : DoesU Tryz.prog 13 #[.pointer (some ⟨d, 0, none⟩), (.agg m.enc.toArray)] (R :: LP d s pv pq po pc) (fun u => msgsT u (handleD s (m.mm l)).2 :: R :: LP d (handleD s (m.mm l)).1 pv pq po pc) := by
 intro w H hp
 have HM0 := Lib.hid (mem_refl hp)
 clear hp
 have g1 : (m.dst != s.self) = false := by rw [bne_eq_false_iff_eq]; exact h0
 have HN : Hid (Does Tryz.prog 25 #[.int .i64 m.frm] [] (.bool true) []) := Lib.hid (by have := isNode_d m.frm; rw [h1] at this; exact this)
 have g2 : (m.frm == s.self) = false := by rw [beq_eq_false_iff_ne]; exact h2
 have hf : 0 ≤ m.frm ∧ m.frm < 8 := by simpa [nodeB] using h1
 have hD := handleD_pass (s := s) (m := m) (l := l) h0 h1 h2
 have HSP := Lib.hid (hearSpeak_d d (heardM s l) pv pq po pc m.frm (lok_heardM hs l) hf)
 have gk1 : (m.kind == 1) = false := by rw [beq_eq_false_iff_ne]; exact (by omega)
 have gk2 : (m.kind == 2) = true := by rw [beq_iff_eq]; exact (by omega)
 have gk3 : (m.kind == 3) = false := by rw [beq_eq_false_iff_ne]; exact (by omega)
 have HD : Hid (handleD s (m.mm l) = ackD (fromD (heardM s l) m.frm) m) := Lib.hid (by rw [hD]; unfold handL; rw [if_neg (by omega), if_pos hk])
 have HA := Lib.hid (handleAck_d d (fromD (heardM s l) m.frm) pv pq po pc m hm (lok_fromD (lok_heardM hs l) m.frm))
 clear h0 h1 h2 hk hf hD
 go_enter Tryz.func13, Tryz.ntmps13
 refine wp_seq ?_
 refine wp_region_N [(0, 3), (1, 1)] (by kernel_rfl) ?_
 refine wpS_boxA (i := 0) (dd := 3) rfl (by rfl) rfl rfl HM0.out covS_nil rfl ?_
 rintro b3 W2 hm1 -
 have HM4 := Lib.hid hm1
 clear hm1
 simp only [Act.put, pA, pB, pC]
 refine wS1 [1] ?_
 repeat (go_big_quiet_step (fail))
 refine wpQuiet_nil ?_
 refine wpS_nil ?_
 refine then_normal ?_
 refine wp_seq ?_
 refine wp_seq ?_
 refine wp_region_M (fun k => k ∈ ([] : List Nat)) [(0, 1), (1, 1), (2, 1), (3, 1), (4, 1), (5, 1), (6, 1), (7, 1), (8, 1), (9, 1), (10, 1), (11, 1), (12, 1), (13, 1), (14, 3), (15, 1), (16, 1), (17, 1), (18, 1), (19, 1), (20, 1), (21, 1), (22, 1), (23, 1), (24, 1), (25, 1)] (by kernel_rfl) (by kernel_rfl) HM4.out ?_
 intro W5 hm6
 have HM7 := Lib.hid hm6
 clear hm6
 refine wS1 [0, 1, 2, 3] ?_
 repeat (go_big_quiet_step (fail))
 refine wpQuiet_nil ?_
 refine wpS_load1 (i := 4) (d := some 9) (u := .int .i64 m.dst) rfl (by rfl) rfl rfl (HM7.out.cellL 0 rfl 2) Tryz.underlying3 rfl rfl ?_
 simp only [Act.put, pA, pB, pC]
 have Cd := Mem.cell HM7.out 2 rfl
 refine wS1 [5, 6, 7, 8, 9, 10, 11, 12] ?_
 repeat (go_big_quiet_step (fail))
 refine wpQuiet_nil ?_
 clear Cd
 refine wpS_load1 (i := 13) (d := some 18) (u := .int .i64 m.frm) rfl (by rfl) rfl rfl (HM7.out.cellL 0 rfl 1) Tryz.underlying3 rfl rfl ?_
 simp only [Act.put, pA, pB, pC]
 refine wpS_does1 (i := 14) (d := some 19) (rem := [_, _, _, _, _, _, _]) (out := [_, _, _, _, _, _, _]) rfl (by rfl) rfl Tryz.call25 (HN.out) rfl HM7.out [] rfl covS_nil rfl rfl ?_
 rintro W9 hm8 -
 have HM10 := Lib.hid hm8
 clear hm8
 simp only [Act.put, pA, pB, pC]
 refine wS1 [15, 16, 17, 18] ?_
 repeat (go_big_quiet_step (fail))
 refine wpQuiet_nil ?_
 refine wpS_load1 (i := 19) (d := some 24) (u := .int .i64 m.frm) rfl (by rfl) rfl rfl (HM10.out.cellL 0 rfl 1) Tryz.underlying3 rfl rfl ?_
 simp only [Act.put, pA, pB, pC]
 have Cd := Mem.cell HM10.out 2 rfl
 refine wS1 [20, 21, 22, 23, 24, 25] ?_
 repeat (go_big_quiet_step (fail))
 refine wpQuiet_nil ?_
 clear Cd
 refine wpS_nil ?_
 refine then_normal ?_
 refine wp_cond_false rfl ?_
 refine wp_skip ?_
 refine then_normal ?_
 refine wp_seq ?_
 refine wp_region_N [(0, 1), (1, 1), (2, 1), (3, 3)] (by kernel_rfl) ?_
 refine wS1 [0, 1] ?_
 repeat (go_big_quiet_step (fail))
 refine wpQuiet_nil ?_
 refine wpS_load1 (i := 2) (d := some 33) (u := .slice m.p m.n m.cap) rfl (by rfl) rfl rfl ((inAt hm (HM10.out.box 0 rfl)).c61) Tryz.underlying44 rfl rfl ?_
 simp only [Act.put, pA, pB, pC]
 refine wpS_does2 (i := 3) (d := some 34) (rem := [_]) (out := [_, _, _, _, _, _, _]) rfl (by rfl) rfl Tryz.call43 (hearFirst_d d s pv pq po pc R _ l hR hl hs) rfl rfl HM10.out [1, 1, 1, 1, 1, 1] rfl covS_nil rfl rfl ?_
 rintro W12 hm11 -
 have HM13 := Lib.hid hm11
 clear hm11
 simp only [Act.put, pA, pB, pC]
 refine wpS_nil ?_
 refine then_normal ?_
 refine wp_seq ?_
 refine wp_region_N [(0, 1), (1, 1), (2, 1), (3, 3)] (by kernel_rfl) ?_
 refine wS1 [0, 1] ?_
 repeat (go_big_quiet_step (fail))
 refine wpQuiet_nil ?_
 refine wpS_load1 (i := 2) (d := some 37) (u := .int .i64 m.frm) rfl (by rfl) rfl rfl (HM13.out.cellL 6 rfl 1) Tryz.underlying3 rfl rfl ?_
 simp only [Act.put, pA, pB, pC]
 refine wpS_does2 (i := 3) (d := some 38) (rem := [_, _]) (out := [_, _, _, _, _, _, _]) rfl (by rfl) rfl Tryz.call44 (HSP.out) rfl rfl HM13.out [1, 1, 1, 1, 1] rfl covS_nil rfl rfl ?_
 rintro W15 hm14 -
 have HM16 := Lib.hid hm14
 clear hm14
 simp only [Act.put, pA, pB, pC]
 refine wpS_nil ?_
 refine then_normal ?_
 refine wp_seq ?_
 refine wp_seq ?_
 refine wp_region_N [(0, 1), (1, 1)] (by kernel_rfl) ?_
 refine wS1 [0] ?_
 repeat (go_big_quiet_step (fail))
 refine wpQuiet_nil ?_
 refine wpS_load1 (i := 1) (d := some 40) (u := .int .i64 m.kind) rfl (by rfl) rfl rfl (HM16.out.cellL 6 rfl 0) Tryz.underlying3 rfl rfl ?_
 simp only [Act.put, pA, pB, pC]
 refine wpS_nil ?_
 refine then_normal ?_
 refine wp_block ?_
 refine wp_seq ?_
 refine wp_region_N [(0, 1), (1, 1)] (by kernel_rfl) ?_
 refine wS1 [0, 1] ?_
 repeat (go_big_quiet_step (fail))
 refine wpQuiet_nil ?_
 refine wpS_nil ?_
 refine then_normal ?_
 refine wp_cond_false rfl ?_
 refine wp_seq ?_
 refine wp_region_N [(0, 1), (1, 1)] (by kernel_rfl) ?_
 refine wS1 [0, 1] ?_
 repeat (go_big_quiet_step (fail))
 refine wpQuiet_nil ?_
 refine wpS_nil ?_
 refine then_normal ?_
 refine wp_cond_true rfl ?_
 refine wp_seq ?_
 refine wp_region_N [(0, 1), (1, 1), (2, 3), (3, 1)] (by kernel_rfl) ?_
 refine wS1 [0] ?_
 repeat (go_big_quiet_step (fail))
 refine wpQuiet_nil ?_
 refine wpS_loadA (i := 1) (d := some 55) (cells := m.enc) rfl (by rfl) rfl rfl (HM16.out.cells0 6 rfl) Tryz.underlying46 rfl (by rw [InM.enc_len hm]; kernel_rfl) rfl ?_
 simp only [Act.put, pA, pB, pC]
 refine wpS_doesU2 (i := 2) (d := some 56) (rem := [_, _]) rfl (by rfl) rfl Tryz.call46 (HA.out) rfl rfl HM16.out [0, 0, 0, 0, 0] rfl covS_nil (fun _ => rfl) rfl ?_
 rintro u19 W18 hm17 -
 have HM20 := Lib.hid hm17
 clear hm17
 simp only [Act.put, pA, pB, pC]
 refine wS1 [3] ?_
 repeat (go_big_quiet_step (fail))
 refine wpQuiet_nil ?_
 refine wpS_nil ?_
 refine then_normal ?_
 refine wp_ret ?_
 refine block_ret (then_ret ?_)
 refine bodyPost_ret (results_tmp rfl _ _ _) rfl ?_
 exact handR_same HD.out (Mem.only (M := [_, _, _, _, _, _, _]) HM20.out [0, 5, 0, 0, 0, 0, 0] rfl)
set_option maxHeartbeats 4000000 in
set_option maxRecDepth 100000 in
theorem handle_req (d : Nat) (s : DS) (pv pq po pc : Nat) (R : At) (m : InM) (l : List Cl) (hR : ∀ W H, R.p W H → RowAt elemCl W (.slice m.p m.n m.cap) l) (hl : l.length ≤ 1000) (hm : m.mid.length = 55) (hs : LOk s) (h0 : m.dst = s.self) (h1 : nodeB m.frm = true) (h2 : ¬ m.frm = s.self) (hk : m.kind = 3) : DoesU Tryz.prog 13 #[.pointer (some ⟨d, 0, none⟩), (.agg m.enc.toArray)] (R :: LP d s pv pq po pc) (fun u => msgsT u (handleD s (m.mm l)).2 :: R :: LP d (handleD s (m.mm l)).1 pv pq po pc) := by
 intro w H hp
 have HM0 := Lib.hid (mem_refl hp)
 clear hp
 have g1 : (m.dst != s.self) = false := by rw [bne_eq_false_iff_eq]; exact h0
 have HN : Hid (Does Tryz.prog 25 #[.int .i64 m.frm] [] (.bool true) []) := Lib.hid (by have := isNode_d m.frm; rw [h1] at this; exact this)
 have g2 : (m.frm == s.self) = false := by rw [beq_eq_false_iff_ne]; exact h2
 have hf : 0 ≤ m.frm ∧ m.frm < 8 := by simpa [nodeB] using h1
 have hD := handleD_pass (s := s) (m := m) (l := l) h0 h1 h2
 have HSP := Lib.hid (hearSpeak_d d (heardM s l) pv pq po pc m.frm (lok_heardM hs l) hf)
 have gk1 : (m.kind == 1) = false := by rw [beq_eq_false_iff_ne]; exact (by omega)
 have gk2 : (m.kind == 2) = false := by rw [beq_eq_false_iff_ne]; exact (by omega)
 have gk3 : (m.kind == 3) = true := by rw [beq_iff_eq]; exact (by omega)
 have HD : Hid (handleD s (m.mm l) = pingReqD (fromD (heardM s l) m.frm) m) := Lib.hid (by rw [hD]; unfold handL; rw [if_neg (by omega), if_neg (by omega), if_pos hk])
 have HA := Lib.hid (handlePingReq_d d (fromD (heardM s l) m.frm) pv pq po pc m hm)
 clear h0 h1 h2 hk hf hD
 go_enter Tryz.func13, Tryz.ntmps13
 refine wp_seq ?_
 refine wp_region_N [(0, 3), (1, 1)] (by kernel_rfl) ?_
 refine wpS_boxA (i := 0) (dd := 3) rfl (by rfl) rfl rfl HM0.out covS_nil rfl ?_
 rintro b3 W2 hm1 -
 have HM4 := Lib.hid hm1
 clear hm1
 simp only [Act.put, pA, pB, pC]
 refine wS1 [1] ?_
 repeat (go_big_quiet_step (fail))
 refine wpQuiet_nil ?_
 refine wpS_nil ?_
 refine then_normal ?_
 refine wp_seq ?_
 refine wp_seq ?_
 refine wp_region_M (fun k => k ∈ ([] : List Nat)) [(0, 1), (1, 1), (2, 1), (3, 1), (4, 1), (5, 1), (6, 1), (7, 1), (8, 1), (9, 1), (10, 1), (11, 1), (12, 1), (13, 1), (14, 3), (15, 1), (16, 1), (17, 1), (18, 1), (19, 1), (20, 1), (21, 1), (22, 1), (23, 1), (24, 1), (25, 1)] (by kernel_rfl) (by kernel_rfl) HM4.out ?_
 intro W5 hm6
 have HM7 := Lib.hid hm6
 clear hm6
 refine wS1 [0, 1, 2, 3] ?_
 repeat (go_big_quiet_step (fail))
 refine wpQuiet_nil ?_
 refine wpS_load1 (i := 4) (d := some 9) (u := .int .i64 m.dst) rfl (by rfl) rfl rfl (HM7.out.cellL 0 rfl 2) Tryz.underlying3 rfl rfl ?_
 simp only [Act.put, pA, pB, pC]
 have Cd := Mem.cell HM7.out 2 rfl
 refine wS1 [5, 6, 7, 8, 9, 10, 11, 12] ?_
 repeat (go_big_quiet_step (fail))
 refine wpQuiet_nil ?_
 clear Cd
 refine wpS_load1 (i := 13) (d := some 18) (u := .int .i64 m.frm) rfl (by rfl) rfl rfl (HM7.out.cellL 0 rfl 1) Tryz.underlying3 rfl rfl ?_
 simp only [Act.put, pA, pB, pC]
 refine wpS_does1 (i := 14) (d := some 19) (rem := [_, _, _, _, _, _, _]) (out := [_, _, _, _, _, _, _]) rfl (by rfl) rfl Tryz.call25 (HN.out) rfl HM7.out [] rfl covS_nil rfl rfl ?_
 rintro W9 hm8 -
 have HM10 := Lib.hid hm8
 clear hm8
 simp only [Act.put, pA, pB, pC]
 refine wS1 [15, 16, 17, 18] ?_
 repeat (go_big_quiet_step (fail))
 refine wpQuiet_nil ?_
 refine wpS_load1 (i := 19) (d := some 24) (u := .int .i64 m.frm) rfl (by rfl) rfl rfl (HM10.out.cellL 0 rfl 1) Tryz.underlying3 rfl rfl ?_
 simp only [Act.put, pA, pB, pC]
 have Cd := Mem.cell HM10.out 2 rfl
 refine wS1 [20, 21, 22, 23, 24, 25] ?_
 repeat (go_big_quiet_step (fail))
 refine wpQuiet_nil ?_
 clear Cd
 refine wpS_nil ?_
 refine then_normal ?_
 refine wp_cond_false rfl ?_
 refine wp_skip ?_
 refine then_normal ?_
 refine wp_seq ?_
 refine wp_region_N [(0, 1), (1, 1), (2, 1), (3, 3)] (by kernel_rfl) ?_
 refine wS1 [0, 1] ?_
 repeat (go_big_quiet_step (fail))
 refine wpQuiet_nil ?_
 refine wpS_load1 (i := 2) (d := some 33) (u := .slice m.p m.n m.cap) rfl (by rfl) rfl rfl ((inAt hm (HM10.out.box 0 rfl)).c61) Tryz.underlying44 rfl rfl ?_
 simp only [Act.put, pA, pB, pC]
 refine wpS_does2 (i := 3) (d := some 34) (rem := [_]) (out := [_, _, _, _, _, _, _]) rfl (by rfl) rfl Tryz.call43 (hearFirst_d d s pv pq po pc R _ l hR hl hs) rfl rfl HM10.out [1, 1, 1, 1, 1, 1] rfl covS_nil rfl rfl ?_
 rintro W12 hm11 -
 have HM13 := Lib.hid hm11
 clear hm11
 simp only [Act.put, pA, pB, pC]
 refine wpS_nil ?_
 refine then_normal ?_
 refine wp_seq ?_
 refine wp_region_N [(0, 1), (1, 1), (2, 1), (3, 3)] (by kernel_rfl) ?_
 refine wS1 [0, 1] ?_
 repeat (go_big_quiet_step (fail))
 refine wpQuiet_nil ?_
 refine wpS_load1 (i := 2) (d := some 37) (u := .int .i64 m.frm) rfl (by rfl) rfl rfl (HM13.out.cellL 6 rfl 1) Tryz.underlying3 rfl rfl ?_
 simp only [Act.put, pA, pB, pC]
 refine wpS_does2 (i := 3) (d := some 38) (rem := [_, _]) (out := [_, _, _, _, _, _, _]) rfl (by rfl) rfl Tryz.call44 (HSP.out) rfl rfl HM13.out [1, 1, 1, 1, 1] rfl covS_nil rfl rfl ?_
 rintro W15 hm14 -
 have HM16 := Lib.hid hm14
 clear hm14
 simp only [Act.put, pA, pB, pC]
 refine wpS_nil ?_
 refine then_normal ?_
 refine wp_seq ?_
 refine wp_seq ?_
 refine wp_region_N [(0, 1), (1, 1)] (by kernel_rfl) ?_
 refine wS1 [0] ?_
 repeat (go_big_quiet_step (fail))
 refine wpQuiet_nil ?_
 refine wpS_load1 (i := 1) (d := some 40) (u := .int .i64 m.kind) rfl (by rfl) rfl rfl (HM16.out.cellL 6 rfl 0) Tryz.underlying3 rfl rfl ?_
 simp only [Act.put, pA, pB, pC]
 refine wpS_nil ?_
 refine then_normal ?_
 refine wp_block ?_
 refine wp_seq ?_
 refine wp_region_N [(0, 1), (1, 1)] (by kernel_rfl) ?_
 refine wS1 [0, 1] ?_
 repeat (go_big_quiet_step (fail))
 refine wpQuiet_nil ?_
 refine wpS_nil ?_
 refine then_normal ?_
 refine wp_cond_false rfl ?_
 refine wp_seq ?_
 refine wp_region_N [(0, 1), (1, 1)] (by kernel_rfl) ?_
 refine wS1 [0, 1] ?_
 repeat (go_big_quiet_step (fail))
 refine wpQuiet_nil ?_
 refine wpS_nil ?_
 refine then_normal ?_
 refine wp_cond_false rfl ?_
 refine wp_seq ?_
 refine wp_region_N [(0, 1), (1, 1)] (by kernel_rfl) ?_
 refine wS1 [0, 1] ?_
 repeat (go_big_quiet_step (fail))
 refine wpQuiet_nil ?_
 refine wpS_nil ?_
 refine then_normal ?_
 refine wp_cond_true rfl ?_
 refine wp_seq ?_
 refine wp_region_N [(0, 1), (1, 1), (2, 3), (3, 1)] (by kernel_rfl) ?_
 refine wS1 [0] ?_
 repeat (go_big_quiet_step (fail))
 refine wpQuiet_nil ?_
 refine wpS_loadA (i := 1) (d := some 60) (cells := m.enc) rfl (by rfl) rfl rfl (HM16.out.cells0 6 rfl) Tryz.underlying46 rfl (by rw [InM.enc_len hm]; kernel_rfl) rfl ?_
 simp only [Act.put, pA, pB, pC]
 refine wpS_doesU2 (i := 2) (d := some 61) (rem := [_, _]) rfl (by rfl) rfl Tryz.call47 (HA.out) rfl rfl HM16.out [0, 0, 0, 0, 0] rfl covS_nil (fun _ => rfl) rfl ?_
 rintro u19 W18 hm17 -
 have HM20 := Lib.hid hm17
 clear hm17
 simp only [Act.put, pA, pB, pC]
 refine wS1 [3] ?_
 repeat (go_big_quiet_step (fail))
 refine wpQuiet_nil ?_
 refine wpS_nil ?_
 refine then_normal ?_
 refine wp_ret ?_
 refine block_ret (then_ret ?_)
 refine bodyPost_ret (results_tmp rfl _ _ _) rfl ?_
 exact handR_same HD.out (Mem.only (M := [_, _, _, _, _, _, _]) HM20.out [0, 5, 0, 0, 0, 0, 0] rfl)
set_option maxHeartbeats 4000000 in
set_option maxRecDepth 100000 in
theorem handle_else (d : Nat) (s : DS) (pv pq po pc : Nat) (R : At) (m : InM) (l : List Cl) (hR : ∀ W H, R.p W H → RowAt elemCl W (.slice m.p m.n m.cap) l) (hl : l.length ≤ 1000) (hm : m.mid.length = 55) (hs : LOk s) (h0 : m.dst = s.self) (h1 : nodeB m.frm = true) (h2 : ¬ m.frm = s.self) (k1 : ¬ m.kind = 1) (k2 : ¬ m.kind = 2) (k3 : ¬ m.kind = 3) : DoesU Tryz.prog 13 #[.pointer (some ⟨d, 0, none⟩), (.agg m.enc.toArray)] (R :: LP d s pv pq po pc) (fun u => msgsT u (handleD s (m.mm l)).2 :: R :: LP d (handleD s (m.mm l)).1 pv pq po pc) := by
 intro w H hp
 have HM0 := Lib.hid (mem_refl hp)
 clear hp
 have g1 : (m.dst != s.self) = false := by rw [bne_eq_false_iff_eq]; exact h0
 have HN : Hid (Does Tryz.prog 25 #[.int .i64 m.frm] [] (.bool true) []) := Lib.hid (by have := isNode_d m.frm; rw [h1] at this; exact this)
 have g2 : (m.frm == s.self) = false := by rw [beq_eq_false_iff_ne]; exact h2
 have hf : 0 ≤ m.frm ∧ m.frm < 8 := by simpa [nodeB] using h1
 have hD := handleD_pass (s := s) (m := m) (l := l) h0 h1 h2
 have HSP := Lib.hid (hearSpeak_d d (heardM s l) pv pq po pc m.frm (lok_heardM hs l) hf)
 have gk1 : (m.kind == 1) = false := by rw [beq_eq_false_iff_ne]; exact (by omega)
 have gk2 : (m.kind == 2) = false := by rw [beq_eq_false_iff_ne]; exact (by omega)
 have gk3 : (m.kind == 3) = false := by rw [beq_eq_false_iff_ne]; exact (by omega)
 have HD : Hid (handleD s (m.mm l) = ((fromD (heardM s l) m.frm), [])) := Lib.hid (by rw [hD]; unfold handL; rw [if_neg k1, if_neg k2, if_neg k3])
 clear h0 h1 h2 k1 k2 k3 hf hD
 go_enter Tryz.func13, Tryz.ntmps13
 refine wp_seq ?_
 refine wp_region_N [(0, 3), (1, 1)] (by kernel_rfl) ?_
 refine wpS_boxA (i := 0) (dd := 3) rfl (by rfl) rfl rfl HM0.out covS_nil rfl ?_
 rintro b3 W2 hm1 -
 have HM4 := Lib.hid hm1
 clear hm1
 simp only [Act.put, pA, pB, pC]
 refine wS1 [1] ?_
 repeat (go_big_quiet_step (fail))
 refine wpQuiet_nil ?_
 refine wpS_nil ?_
 refine then_normal ?_
 refine wp_seq ?_
 refine wp_seq ?_
 refine wp_region_M (fun k => k ∈ ([] : List Nat)) [(0, 1), (1, 1), (2, 1), (3, 1), (4, 1), (5, 1), (6, 1), (7, 1), (8, 1), (9, 1), (10, 1), (11, 1), (12, 1), (13, 1), (14, 3), (15, 1), (16, 1), (17, 1), (18, 1), (19, 1), (20, 1), (21, 1), (22, 1), (23, 1), (24, 1), (25, 1)] (by kernel_rfl) (by kernel_rfl) HM4.out ?_
 intro W5 hm6
 have HM7 := Lib.hid hm6
 clear hm6
 refine wS1 [0, 1, 2, 3] ?_
 repeat (go_big_quiet_step (fail))
 refine wpQuiet_nil ?_
 refine wpS_load1 (i := 4) (d := some 9) (u := .int .i64 m.dst) rfl (by rfl) rfl rfl (HM7.out.cellL 0 rfl 2) Tryz.underlying3 rfl rfl ?_
 simp only [Act.put, pA, pB, pC]
 have Cd := Mem.cell HM7.out 2 rfl
 refine wS1 [5, 6, 7, 8, 9, 10, 11, 12] ?_
 repeat (go_big_quiet_step (fail))
 refine wpQuiet_nil ?_
 clear Cd
 refine wpS_load1 (i := 13) (d := some 18) (u := .int .i64 m.frm) rfl (by rfl) rfl rfl (HM7.out.cellL 0 rfl 1) Tryz.underlying3 rfl rfl ?_
 simp only [Act.put, pA, pB, pC]
 refine wpS_does1 (i := 14) (d := some 19) (rem := [_, _, _, _, _, _, _]) (out := [_, _, _, _, _, _, _]) rfl (by rfl) rfl Tryz.call25 (HN.out) rfl HM7.out [] rfl covS_nil rfl rfl ?_
 rintro W9 hm8 -
 have HM10 := Lib.hid hm8
 clear hm8
 simp only [Act.put, pA, pB, pC]
 refine wS1 [15, 16, 17, 18] ?_
 repeat (go_big_quiet_step (fail))
 refine wpQuiet_nil ?_
 refine wpS_load1 (i := 19) (d := some 24) (u := .int .i64 m.frm) rfl (by rfl) rfl rfl (HM10.out.cellL 0 rfl 1) Tryz.underlying3 rfl rfl ?_
 simp only [Act.put, pA, pB, pC]
 have Cd := Mem.cell HM10.out 2 rfl
 refine wS1 [20, 21, 22, 23, 24, 25] ?_
 repeat (go_big_quiet_step (fail))
 refine wpQuiet_nil ?_
 clear Cd
 refine wpS_nil ?_
 refine then_normal ?_
 refine wp_cond_false rfl ?_
 refine wp_skip ?_
 refine then_normal ?_
 refine wp_seq ?_
 refine wp_region_N [(0, 1), (1, 1), (2, 1), (3, 3)] (by kernel_rfl) ?_
 refine wS1 [0, 1] ?_
 repeat (go_big_quiet_step (fail))
 refine wpQuiet_nil ?_
 refine wpS_load1 (i := 2) (d := some 33) (u := .slice m.p m.n m.cap) rfl (by rfl) rfl rfl ((inAt hm (HM10.out.box 0 rfl)).c61) Tryz.underlying44 rfl rfl ?_
 simp only [Act.put, pA, pB, pC]
 refine wpS_does2 (i := 3) (d := some 34) (rem := [_]) (out := [_, _, _, _, _, _, _]) rfl (by rfl) rfl Tryz.call43 (hearFirst_d d s pv pq po pc R _ l hR hl hs) rfl rfl HM10.out [1, 1, 1, 1, 1, 1] rfl covS_nil rfl rfl ?_
 rintro W12 hm11 -
 have HM13 := Lib.hid hm11
 clear hm11
 simp only [Act.put, pA, pB, pC]
 refine wpS_nil ?_
 refine then_normal ?_
 refine wp_seq ?_
 refine wp_region_N [(0, 1), (1, 1), (2, 1), (3, 3)] (by kernel_rfl) ?_
 refine wS1 [0, 1] ?_
 repeat (go_big_quiet_step (fail))
 refine wpQuiet_nil ?_
 refine wpS_load1 (i := 2) (d := some 37) (u := .int .i64 m.frm) rfl (by rfl) rfl rfl (HM13.out.cellL 6 rfl 1) Tryz.underlying3 rfl rfl ?_
 simp only [Act.put, pA, pB, pC]
 refine wpS_does2 (i := 3) (d := some 38) (rem := [_, _]) (out := [_, _, _, _, _, _, _]) rfl (by rfl) rfl Tryz.call44 (HSP.out) rfl rfl HM13.out [1, 1, 1, 1, 1] rfl covS_nil rfl rfl ?_
 rintro W15 hm14 -
 have HM16 := Lib.hid hm14
 clear hm14
 simp only [Act.put, pA, pB, pC]
 refine wpS_nil ?_
 refine then_normal ?_
 refine wp_seq ?_
 refine wp_seq ?_
 refine wp_region_N [(0, 1), (1, 1)] (by kernel_rfl) ?_
 refine wS1 [0] ?_
 repeat (go_big_quiet_step (fail))
 refine wpQuiet_nil ?_
 refine wpS_load1 (i := 1) (d := some 40) (u := .int .i64 m.kind) rfl (by rfl) rfl rfl (HM16.out.cellL 6 rfl 0) Tryz.underlying3 rfl rfl ?_
 simp only [Act.put, pA, pB, pC]
 refine wpS_nil ?_
 refine then_normal ?_
 refine wp_block ?_
 refine wp_seq ?_
 refine wp_region_N [(0, 1), (1, 1)] (by kernel_rfl) ?_
 refine wS1 [0, 1] ?_
 repeat (go_big_quiet_step (fail))
 refine wpQuiet_nil ?_
 refine wpS_nil ?_
 refine then_normal ?_
 refine wp_cond_false rfl ?_
 refine wp_seq ?_
 refine wp_region_N [(0, 1), (1, 1)] (by kernel_rfl) ?_
 refine wS1 [0, 1] ?_
 repeat (go_big_quiet_step (fail))
 refine wpQuiet_nil ?_
 refine wpS_nil ?_
 refine then_normal ?_
 refine wp_cond_false rfl ?_
 refine wp_seq ?_
 refine wp_region_N [(0, 1), (1, 1)] (by kernel_rfl) ?_
 refine wS1 [0, 1] ?_
 repeat (go_big_quiet_step (fail))
 refine wpQuiet_nil ?_
 refine wpS_nil ?_
 refine then_normal ?_
 refine wp_cond_false rfl ?_
 refine wp_skip ?_
 refine block_normal ?_
 refine then_normal ?_
 refine wp_seq ?_
 refine wp_region_N [(0, 1)] (by kernel_rfl) ?_
 refine wS1 [0] ?_
 repeat (go_big_quiet_step (fail))
 refine wpQuiet_nil ?_
 refine wpS_nil ?_
 refine then_normal ?_
 refine wp_ret ?_
 refine bodyPost_ret (results_tmp rfl _ _ _) rfl ?_
 exact handR_nil HD.out (Mem.only (M := [_, _, _, _, _, _]) HM16.out [5, 0, 0, 0, 0, 0] rfl)
theorem handle_d (d : Nat) (s : DS) (pv pq po pc : Nat) (R : At) (m : InM) (l : List Cl) (hR : ∀ W H, R.p W H → RowAt elemCl W (.slice m.p m.n m.cap) l) (hl : l.length ≤ 1000) (hm : m.mid.length = 55) (hs : LOk s) : DoesU Tryz.prog 13 #[.pointer (some ⟨d, 0, none⟩), .agg m.enc.toArray] (R :: LP d s pv pq po pc) (fun u => msgsT u (handleD s (m.mm l)).2 :: R :: LP d (handleD s (m.mm l)).1 pv pq po pc) := by
 by_cases h0 : m.dst = s.self
 ·cases h1 : nodeB m.frm with
  | false => exact handle_bad1 d s pv pq po pc R m l hR hl hm hs h0 h1
  | true =>
   by_cases h2 : m.frm = s.self
   ·exact handle_bad2 d s pv pq po pc R m l hR hl hm hs h0 h1 h2
   ·by_cases k1 : m.kind = 1
    ·exact handle_ping d s pv pq po pc R m l hR hl hm hs h0 h1 h2 k1
    ·by_cases k2 : m.kind = 2
     ·exact handle_ack d s pv pq po pc R m l hR hl hm hs h0 h1 h2 k2
     ·by_cases k3 : m.kind = 3
      ·exact handle_req d s pv pq po pc R m l hR hl hm hs h0 h1 h2 k3
      ·exact handle_else d s pv pq po pc R m l hR hl hm hs h0 h1 h2 k1 k2 k3
 ·exact handle_bad0 d s pv pq po pc R m l hR hl hm hs h0
end Go.Proofs.YtjbihgfdgaiecaaGreat

/- The landed detector: a tick's turn: what it holds; to post. -/
namespace Go.Proofs.YtjbihgfdgaiecaaGreat
open Go Go.RowKit Go.BigFrame
abbrev turnT (t d : Nat) (vp : Value) (draw : Int) (vs : Value) : At := boxT t (.cells #[.pointer (some ⟨d, 0, none⟩), vp, .int .u64 draw, vs] 93 (0, 0))
def clsT (raws : List RawM) (ms : List MM) : At := ⟨ClsA raws ms emp, clsA_owns emp_owns raws ms⟩
section
variable {L : List At} {H : Nat → Prop} {w W : World} {u : Value}
theorem msgs_open {ms : List MM} (h : Mem (msgsT u ms :: L) H w W) : ∃ raws, Mem (rowT elemM u raws :: clsT raws ms :: L) H w W := by
 obtain ⟨H', ⟨H1, H2, ⟨raws, h1⟩, h2, ha, he⟩, hf, hg⟩ := h
 exact ⟨raws, H', star_assoc ⟨H1, H2, h1, h2, ha, he⟩, hf, hg⟩
theorem msgs_close {raws : List RawM} {ms : List MM} (h : Mem (rowT elemM u raws :: clsT raws ms :: L) H w W) : Mem (msgsT u ms :: L) H w W := SEnd.mono h fun _ h => star_mono (fun _ h => ⟨raws, h⟩) (fun _ h => h) (star_assoc' h)
theorem cls_app {W : World} : ∀ {r1 : List RawM} {m1 : List MM} {r2 : List RawM} {m2 : List MM} {H : Nat → Prop}, star (ClsA r1 m1 emp) (ClsA r2 m2 emp) W H → ClsA (r1 ++ r2) (m1 ++ m2) emp W H
 | [], [], _, _, _, h => starl_emp' h
 | r :: r1, m :: m1, _, _, _, ⟨H1, H2, ⟨hp, h1⟩, h2, ha, he⟩ => ⟨hp, star_mono (fun _ h => h) (fun _ h => cls_app h) (star_assoc ⟨H1, H2, h1, h2, ha, he⟩)⟩
 | [], _ :: _, _, _, _, ⟨_, _, h1, _⟩ => h1.elim
 | _ :: _, [], _, _, _, ⟨_, _, h1, _⟩ => h1.elim
theorem cls_join {r1 r2 : List RawM} {m1 m2 : List MM} (h : Mem (clsT r1 m1 :: clsT r2 m2 :: L) H w W) : Mem (clsT (r1 ++ r2) (m1 ++ m2) :: L) H w W := SEnd.mono h fun _ h => star_mono (fun _ h => cls_app h) (fun _ h => h) (star_assoc' h)
theorem cls_len {raws : List RawM} {ms : List MM} (h : Mem L H w W) (i : Nat) (hi : L[i]? = some (clsT raws ms)) : raws.length = ms.length := h.have i hi fun _ h => clsA_len h
end
theorem postD_len (s : DS) (kind dst seq fo ab : Int) : (postD s kind dst seq fo ab).2.length ≤ 1 := by
 unfold postD
 split <;> simp
set_option maxHeartbeats 4000000 in
set_option maxRecDepth 100000 in
theorem post_d (t d : Nat) (s : DS) (pv pq po pc : Nat) (vp : Value) (draw : Int) (vs : Value) (ms : List MM) (hms : ms.length ≤ 10000) (kind dst seq fo ab : Int) : Does Tryz.prog 79 #[.pointer (some ⟨t, 0, none⟩), (.agg (RawM.enc ⟨kind, 0, dst, seq, fo, ab, none, 0, 0⟩).toArray)] [turnT t d vp draw vs, msgsT vs ms, lanT d s pv pq po pc, viewT pv s.V, queT pq s.Q] (.tuple #[]) [exT fun vs' => [turnT t d vp draw vs', msgsT vs' (ms ++ (postD s kind dst seq fo ab).2), lanT d s pv pq po pc, viewT pv s.V, queT pq (postD s kind dst seq fo ab).1.Q]] := by
 intro w H hp
 have HM0 := Lib.hid (mem_refl hp)
 clear hp
 obtain ⟨raws, hop⟩ := msgs_open (Mem.only (M := [_, _, _, _, _]) HM0.out [1, 0, 0, 0, 0] rfl)
 have hl1 := cls_len hop 1 rfl
 have HM0 := Lib.hid (Mem.only (M := [_, _, _, _, _, _]) hop [2, 0, 0, 0, 0, 0] rfl)
 clear hop
 go_enter Tryz.func79, Tryz.ntmps79
 refine wp_seq ?_
 refine wp_region_N [(0, 3)] (by kernel_rfl) ?_
 refine wpS_boxA (i := 0) (dd := 3) rfl (by rfl) rfl rfl HM0.out covS_nil rfl ?_
 rintro b3 W2 hm1 -
 have HM4 := Lib.hid hm1
 clear hm1
 simp only [Act.put, pA, pB, pC]
 refine wpS_nil ?_
 refine then_normal ?_
 refine wp_region_M (fun k => k ∈ ([t] : List Nat)) [(0, 0), (1, 0), (2, 0), (3, 0), (4, 2), (5, 1), (6, 1), (7, 1), (8, 1), (9, 1), (10, 3), (11, 3), (12, 1), (13, 1), (14, 4)] (by kernel_rfl) (by kernel_rfl) HM4.out ?_
 intro W5 hm6
 have HM7 := Lib.hid hm6
 clear hm6
 refine wS0 [0, 1, 2, 3] ?_
 repeat (go_big_quiet_step (fail))
 refine wpQuiet_nil ?_
 have Ct := Mem.cell HM7.out 1 rfl
 refine wS2 [4] ?_
 repeat (go_big_quiet_step (fail))
 refine wpQuiet_nil ?_
 clear Ct
 have Ct := Mem.cell HM7.out 1 rfl
 refine wS1 [5, 6, 7, 8] ?_
 repeat (go_big_quiet_step (fail))
 refine wpQuiet_nil ?_
 clear Ct
 refine wpS_loadA (i := 9) (d := some 13) (cells := RawM.enc ⟨kind, 0, dst, seq, fo, ab, none, 0, 0⟩) rfl (by rfl) rfl rfl (HM7.out.cells0 0 rfl) Tryz.underlying46 rfl (by kernel_rfl) rfl ?_
 simp only [Act.put, pA, pB, pC]
 refine wpS_doesU2 (i := 10) (d := some 14) (rem := [_, _, _, _]) rfl (by rfl) rfl Tryz.call45 (send_d d s pv pq po pc kind dst seq fo ab) rfl rfl HM7.out [4, 4, 4] rfl (covS_box 1 rfl covS_nil) (fun _ => rfl) rfl ?_
 rintro u11 W9 hm8 hg10
 obtain ⟨raws2, hm8⟩ := msgs_open hm8
 have hl2 := cls_len hm8 1 rfl
 have HM12 := Lib.hid hm8
 clear hm8
 simp only [Act.put, pA, pB, pC]
 refine wpS_append (E := elemM) (i := 11) (d := some 15) (L2 := [_, _, _, _, _, _, _, _]) rfl (by rfl) rfl HM12.out 7 rfl rfl (HM12.out.src 0 rfl rowT_reads) rfl (by rw [hl1, hl2]; have := postD_len s kind dst seq fo ab; show _ * 552 ≤ _; omega) rfl (covS_box 6 rfl covS_nil) rfl ?_
 rintro v16 W17 hm18 hg19
 obtain ⟨v16p, v16c, rfl⟩ := row_form (Mem.src hm18 0 rfl rowT_reads)
 have HM20 := Lib.hid hm18
 clear hm18
 simp only [Act.put, pA, pB, pC]
 refine wS1 [12, 13] ?_
 repeat (go_big_quiet_step (fail))
 refine wpQuiet_nil ?_
 refine wpS_store14 (i := 14) (L2 := [_, _, _, _, _, _, _, _]) (cs' := [_, _, _, _]) rfl (by rfl) rfl rfl rfl rfl (by kernel_rfl) rfl HM20.out 7 rfl rfl rfl rfl  rfl ?_
 rintro W22 hm21
 have HM24 := Lib.hid hm21
 clear hm21
 refine wpS_nil ?_
 refine bodyPost_end (results_none rfl _ _ _) rfl ?_
 have HJ := cls_join (Mem.only (M := [_, _, _, _, _, _, _]) HM24.out [8, 3, 1, 0, 1, 1, 1] rfl)
 have HK := msgs_close (Mem.only (M := [_, _, _, _, _, _]) HJ [1, 0, 0, 0, 0, 0] rfl)
 exact does_ret (M := [exT _]) (Mem.addEx (f := fun vs' => [turnT t d vp draw vs', msgsT vs' (ms ++ (postD s kind dst seq fo ab).2), lanT d s pv pq po pc, viewT pv s.V, queT pq (postD s kind dst seq fo ab).1.Q]) (.slice v16p (raws ++ raws2).length v16c) (Mem.only HK [1, 0, 0, 0, 0] rfl)) rfl rfl
end Go.Proofs.YtjbihgfdgaiecaaGreat

/- The landed detector: whom a turn asks. -/
namespace Go.Proofs.YtjbihgfdgaiecaaGreat
open Go Go.RowKit Go.BigFrame
theorem contains_d (R : At) (v : Value) (l : List Int) (n : Int) (hR : ∀ W H, R.p W H → RowAt elemI W v l) (hl : l.length ≤ 1000) : Does Tryz.prog 102 #[v, .int .i64 n] [R] (.bool (l.contains n)) [R] := Does.of_gives fun W H hs => containsI_any v l n W (ints_rowAt (hR W H (emp_right hs))) hl
theorem some_d (R : At) (v : Value) (l : List Int) (k draw : Int) (hR : Reads elemI R v l) (hl : l.length ≤ 1000) (h0 : 0 ≤ draw) (h1 : draw < 18446744073709551616) : DoesU Tryz.prog 96 #[v, .int .i64 k, .int .u64 draw] [R] fun u => [rowT elemI u (some' l k draw), R] := fun W H hs => by
 refine (proSome_any v l k draw W (srcI_of (hR W H (emp_right hs))) (by omega) h0 h1).mono fun e W' ⟨u, he, hm⟩ => ⟨u, he, ?_⟩
 exact SEnd.madeI (stars_owns [R]) (sEnd_refl hs) hm
theorem ord_next (m : Nat) (self : Int) (O peers : List Int) (draw : Int) (R : At) (v : Value) (hR : ∀ W H, R.p W H → RowAt elemI W v peers) (hl : peers.length ≤ 1000) (h0 : 0 ≤ draw) (h1 : draw < 18446744073709551616) : Does Tryz.prog 78 #[.pointer (some ⟨m, 0, none⟩), v, .int .u64 draw] [R, ordT m self O] (.int .i64 (nextOf self O peers draw).1) [R, ordT m self (nextOf self O peers draw).2] := fun W H hs => by
 have hrow : RowAt elemI W v peers := by
  obtain ⟨H1, _, h1, _⟩ := hs
  exact hR W H1 h1
 have hs2 : star (ordT m self O).p R.p W H := star_comm (star_mono (fun _ h => h) (fun _ h => emp_right h) hs)
 obtain ⟨H1, ho, _, h3⟩ := star_frame R.owns hs2
 refine (ordB_next m self O peers draw v W H1 ho hrow (by omega) h0 h1).mono fun e W' ⟨u, he, hr⟩ => ?_
 obtain ⟨hu, hr2⟩ := SEnd.pure hr
 subst hu
 exact ⟨he, (h3 _ _ hr2).1.mono fun _ h => star_mono (fun _ h => h) (fun _ h => star_comm (starl_emp h)) (star_comm h)⟩
def pbF (l : List Int) (self node : Int) (j : Nat) : Bool := isPeer l self j && !((j : Int) == node)
theorem pbF_all (l : List Int) (self node : Int) : peersF (pbF l self node) 8 = (peersOf l self).filter fun p => !(p == node) := by
 unfold peersOf peersF
 rw [List.filter_map, List.filter_filter]
 congr 1
 apply List.filter_congr
 intro j _
 simp [pbF, Bool.and_comm]
theorem pb_cases (k : Int) (self node : Int) : ((k != self) = false ∧ k = self) ∨ ((k != self) = true ∧ (k != node) = false ∧ k = node) ∨ ((k != self) = true ∧ (k != node) = true ∧ k ≠ self ∧ k ≠ node) := by
 by_cases h1 : k = self
 ·exact .inl ⟨by simpa using h1, h1⟩
 ·by_cases h2 : k = node
  ·exact .inr (.inl ⟨by simpa using h1, by simpa using h2, h2⟩)
  ·exact .inr (.inr ⟨by simpa using h1, by simpa using h2, h1, h2⟩)
set_option maxHeartbeats 4000000 in
set_option maxRecDepth 100000 in
theorem peersBut_d (t d : Nat) (s : DS) (pv pq po pc : Nat) (vp : Value) (draw : Int) (vs : Value) (R : At) (peers : List Int) (hR : ∀ W H, R.p W H → RowAt elemI W vp peers) (hpl : peers.length ≤ 1000) (node : Int) : DoesU Tryz.prog 97 #[.pointer (some ⟨t, 0, none⟩), .int .i64 node] [turnT t d vp draw vs, lanT d s pv pq po pc, R] (fun u => [rowT elemI u ((peersOf peers s.self).filter fun p => !(p == node)), turnT t d vp draw vs, lanT d s pv pq po pc, R]) := by
 intro w H hp
 have HM0 := Lib.hid (mem_refl hp)
 clear hp
 have HM0 := Lib.hid (Mem.nilRow elemI HM0.out)
 go_enter Tryz.func97, Tryz.ntmps97
 refine wp_seq ?_
 refine wp_region_N [(0, 1)] (by kernel_rfl) ?_
 refine wS1 [0] ?_
 repeat (go_big_quiet_step (fail))
 refine wpQuiet_nil ?_
 refine wpS_nil ?_
 refine then_normal ?_
 refine wp_seq ?_
 refine wp_region_N [(0, 1)] (by kernel_rfl) ?_
 refine wS1 [0] ?_
 repeat (go_big_quiet_step (fail))
 refine wpQuiet_nil ?_
 refine wpS_nil ?_
 refine then_normal ?_
 refine wp_seq ?_
 refine wp_seq ?_
 refine wp_region_N [(0, 1)] (by kernel_rfl) ?_
 refine wS1 [0] ?_
 repeat (go_big_quiet_step (fail))
 refine wpQuiet_nil ?_
 refine wpS_nil ?_
 refine then_normal ?_
 refine wp_block ?_
 refine wp_loop_F [5, 6, 7, 8, 9, 10, 11, 12, 13, 14, 15, 16, 17, 18, 19, 20, 21, 22, 23, 24, 25, 26, 27, 28, 29, 30, 31, 32, 33, 34, 35, 36] (fun n vz W' => ∃ (k : Nat) (v : Value), n = 8 - k ∧ vz 7 = .int .i64 (k : Int) ∧ vz 5 = v ∧ k ≤ 8 ∧ Mem [rowT elemI v (peersF (pbF peers s.self node) k), turnT t d vp draw vs, lanT d s pv pq po pc, R] H w W') (n0 := 8) ?_ ?_
 ·exact ⟨0, _, rfl, rfl, rfl, Nat.zero_le _, (Mem.only (M := [_, _, _, _]) HM0.out [0, 0, 0, 0] rfl)⟩
 rintro n vz W' ⟨k, v, rfl, e7, e5, hk, hm⟩
 simp only [putAll, List.map_cons, List.map_nil, Act.put, List.setIfInBounds_toArray, List.set_cons_succ, List.set_cons_zero]
 rw [e7, e5]
 clear e7 e5
 have HM1 := Lib.hid hm
 clear hm
 refine wp_seq ?_
 refine wp_region_N [(0, 1)] (by kernel_rfl) ?_
 refine wS1 [0] ?_
 repeat (go_big_quiet_step (fail))
 refine wpQuiet_nil ?_
 refine wpS_nil ?_
 refine then_normal ?_
 refine wp_seq ?_
 refine wp_cond_split rfl (fun h2 => ?_) (fun h2 => ?_)
 ·have hk1 : k + 1 ≤ 8 := by have : (k : Int) < 8 := (by simpa using h2); omega
  clear h2
  refine wp_skip ?_
  refine then_normal ?_
  refine wp_seq ?_
  refine wp_block ?_
  refine wp_seq ?_
  refine wp_region_N [(0, 1), (1, 1)] (by kernel_rfl) ?_
  refine wS1 [0, 1] ?_
  repeat (go_big_quiet_step (fail))
  refine wpQuiet_nil ?_
  refine wpS_nil ?_
  refine then_normal ?_
  refine wp_seq ?_
  rcases pb_cases (k : Int) s.self node with ⟨g1, e1⟩ | ⟨g1, g2, e2⟩ | ⟨g1, g2, e1, e2⟩
  ·have hF : Hid (pbF peers s.self node k = false) := Lib.hid (by simp [pbF, isPeer, e1])
   clear e1
   refine wp_region_N [(0, 1), (1, 1), (2, 1), (3, 1), (4, 1), (5, 1), (6, 1), (7, 1), (8, 1), (9, 1), (10, 1), (11, 1), (12, 1), (13, 1), (14, 1), (15, 1), (16, 1), (17, 1), (18, 1), (19, 1), (20, 3), (21, 1)] (by kernel_rfl) ?_
   have Ct := Mem.cell HM1.out 1 rfl
   have Cd := Mem.cell HM1.out 2 rfl
   refine wS1 [0, 1, 2, 3, 4, 5, 6, 7, 8, 9, 10, 11, 12, 13, 14, 15, 16, 17, 18, 19] ?_
   repeat (go_big_quiet_step (fail))
   refine wpQuiet_nil ?_
   clear Ct Cd
   refine wpS_skip (i := 20) (d := some 30) rfl (by rfl) rfl ?_
   simp only [Act.put, pA, pB, pC]
   refine wS1 [21] ?_
   repeat (go_big_quiet_step (fail))
   refine wpQuiet_nil ?_
   refine wpS_nil ?_
   refine then_normal ?_
   refine wp_cond_false rfl ?_
   refine wp_skip ?_
   refine block_normal ?_
   refine then_normal ?_
   refine wp_region_N [(0, 1), (1, 1)] (by kernel_rfl) ?_
   refine wS1 [0, 1] ?_
   repeat (go_big_quiet_step (fail))
   refine wpQuiet_nil ?_
   refine wpS_nil ?_
   refine then_normal ?_
   refine ⟨by kernel_rfl, ?_⟩
   have hst : peersF (pbF peers s.self node) (k + 1) = _ := peersF_miss _ k hF.out
   refine ⟨8 - (k + 1), by omega, k + 1, _, rfl, rfl, rfl, hk1, ?_⟩
   rw [hst]
   exact (Mem.only (M := [_, _, _, _]) HM1.out [0, 0, 0, 0] rfl)
  ·have hF : Hid (pbF peers s.self node k = false) := Lib.hid (by simp [pbF, e2])
   clear e2
   refine wp_region_N [(0, 1), (1, 1), (2, 1), (3, 1), (4, 1), (5, 1), (6, 1), (7, 1), (8, 1), (9, 1), (10, 1), (11, 1), (12, 1), (13, 1), (14, 1), (15, 1), (16, 1), (17, 1), (18, 1), (19, 1), (20, 3), (21, 1)] (by kernel_rfl) ?_
   have Ct := Mem.cell HM1.out 1 rfl
   have Cd := Mem.cell HM1.out 2 rfl
   refine wS1 [0, 1, 2, 3, 4, 5, 6, 7, 8, 9, 10, 11, 12, 13, 14, 15, 16, 17, 18, 19] ?_
   repeat (go_big_quiet_step (fail))
   refine wpQuiet_nil ?_
   clear Ct Cd
   refine wpS_skip (i := 20) (d := some 30) rfl (by rfl) rfl ?_
   simp only [Act.put, pA, pB, pC]
   refine wS1 [21] ?_
   repeat (go_big_quiet_step (fail))
   refine wpQuiet_nil ?_
   refine wpS_nil ?_
   refine then_normal ?_
   refine wp_cond_false rfl ?_
   refine wp_skip ?_
   refine block_normal ?_
   refine then_normal ?_
   refine wp_region_N [(0, 1), (1, 1)] (by kernel_rfl) ?_
   refine wS1 [0, 1] ?_
   repeat (go_big_quiet_step (fail))
   refine wpQuiet_nil ?_
   refine wpS_nil ?_
   refine then_normal ?_
   refine ⟨by kernel_rfl, ?_⟩
   have hst : peersF (pbF peers s.self node) (k + 1) = _ := peersF_miss _ k hF.out
   refine ⟨8 - (k + 1), by omega, k + 1, _, rfl, rfl, rfl, hk1, ?_⟩
   rw [hst]
   exact (Mem.only (M := [_, _, _, _]) HM1.out [0, 0, 0, 0] rfl)
  ·have hC : Hid (pbF peers s.self node k = peers.contains (k : Int)) := Lib.hid (by unfold pbF isPeer; rw [beq_eq_false_iff_ne.2 e1, beq_eq_false_iff_ne.2 e2]; simp)
   clear e1 e2
   refine wp_region_N [(0, 1), (1, 1), (2, 1), (3, 1), (4, 1), (5, 1), (6, 1), (7, 1), (8, 1), (9, 1), (10, 1), (11, 1), (12, 1), (13, 1), (14, 1), (15, 1), (16, 1), (17, 1), (18, 1), (19, 1), (20, 3), (21, 1)] (by kernel_rfl) ?_
   have Ct := Mem.cell HM1.out 1 rfl
   have Cd := Mem.cell HM1.out 2 rfl
   refine wS1 [0, 1, 2, 3, 4, 5, 6, 7, 8, 9, 10, 11, 12, 13, 14, 15, 16, 17, 18, 19] ?_
   repeat (go_big_quiet_step (fail))
   refine wpQuiet_nil ?_
   clear Ct Cd
   refine wpS_does2 (i := 20) (d := some 30) (rem := [_, _, _]) (out := [_, _, _, _]) rfl (by rfl) rfl Tryz.call102 (contains_d R vp peers (k : Int) hR hpl) rfl rfl HM1.out [3] rfl covS_nil rfl rfl ?_
   rintro W4 hm3 -
   have HM5 := Lib.hid hm3
   clear hm3
   simp only [Act.put, pA, pB, pC]
   refine wS1 [21] ?_
   repeat (go_big_quiet_step (fail))
   refine wpQuiet_nil ?_
   refine wpS_nil ?_
   refine then_normal ?_
   refine wp_cond_split rfl (fun h6 => ?_) (fun h6 => ?_)
   ·have hF : Hid (pbF peers s.self node k = true) := Lib.hid (by rw [hC.out]; simpa using h6)
    clear h6
    refine wp_region_N [(0, 1), (1, 1), (2, 3), (3, 3), (4, 1)] (by kernel_rfl) ?_
    refine wS1 [0, 1] ?_
    repeat (go_big_quiet_step (fail))
    refine wpQuiet_nil ?_
    refine wpS_build1 elemI (i := 2) (dd := 34) (y := (k : Int)) rfl (by rfl) rfl rfl rfl (by decide) HM5.out covS_nil rfl ?_
    rintro b9 W10 hm11 -
    have HM12 := Lib.hid hm11
    clear hm11
    simp only [Act.put, pA, pB, pC]
    refine wpS_append (E := elemI) (i := 3) (d := some 35) (L2 := [_, _, _, _]) rfl (by rfl) rfl HM12.out 2 rfl rfl (HM12.out.src 0 rfl rowT_reads) rfl (by have := peersF_len (pbF peers s.self node) k; show (_ + 1) * 8 ≤ _; omega) rfl covS_nil rfl ?_
    rintro v15 W16 hm17 -
    obtain ⟨v15p, v15c, rfl⟩ := row_form (Mem.src hm17 0 rfl rowT_reads)
    have HM18 := Lib.hid hm17
    clear hm17
    simp only [Act.put, pA, pB, pC]
    refine wS1 [4] ?_
    repeat (go_big_quiet_step (fail))
    refine wpQuiet_nil ?_
    refine wpS_nil ?_
    refine block_normal ?_
    refine then_normal ?_
    refine wp_region_N [(0, 1), (1, 1)] (by kernel_rfl) ?_
    refine wS1 [0, 1] ?_
    repeat (go_big_quiet_step (fail))
    refine wpQuiet_nil ?_
    refine wpS_nil ?_
    refine then_normal ?_
    refine ⟨by kernel_rfl, ?_⟩
    have hst : peersF (pbF peers s.self node) (k + 1) = _ := peersF_hit _ k hF.out
    refine ⟨8 - (k + 1), by omega, k + 1, _, rfl, rfl, rfl, hk1, ?_⟩
    rw [hst]
    exact (Mem.only (M := [_, _, _, _]) HM18.out [0, 2, 2, 1] rfl)
   ·have hF : Hid (pbF peers s.self node k = false) := Lib.hid (by rw [hC.out]; simpa using h6)
    clear h6
    refine wp_skip ?_
    refine block_normal ?_
    refine then_normal ?_
    refine wp_region_N [(0, 1), (1, 1)] (by kernel_rfl) ?_
    refine wS1 [0, 1] ?_
    repeat (go_big_quiet_step (fail))
    refine wpQuiet_nil ?_
    refine wpS_nil ?_
    refine then_normal ?_
    refine ⟨by kernel_rfl, ?_⟩
    have hst : peersF (pbF peers s.self node) (k + 1) = _ := peersF_miss _ k hF.out
    refine ⟨8 - (k + 1), by omega, k + 1, _, rfl, rfl, rfl, hk1, ?_⟩
    rw [hst]
    exact (Mem.only (M := [_, _, _, _]) HM5.out [1, 1, 1, 0] rfl)
 ·have hge : Hid (8 ≤ k) := Lib.hid (by have : ¬ (k : Int) < 8 := (by simpa using h2); omega)
  clear h2
  refine wp_exit ?_
  refine then_exit (then_exit (block_exit ?_))
  refine then_normal ?_
  refine wp_seq ?_
  refine wp_region_N [(0, 1), (1, 1)] (by kernel_rfl) ?_
  refine wS1 [0, 1] ?_
  repeat (go_big_quiet_step (fail))
  refine wpQuiet_nil ?_
  refine wpS_nil ?_
  refine then_normal ?_
  refine wp_ret ?_
  refine bodyPost_ret (results_tmp rfl _ _ _) rfl ?_
  have hk8 : k = 8 := by have := hge.out; omega
  subst hk8
  rw [pbF_all] at HM1
  exact doesU_ret (post := fun u => [rowT elemI u ((peersOf peers s.self).filter fun p => !(p == node)), turnT t d vp draw vs, lanT d s pv pq po pc, R]) (Mem.only (M := [_, _, _, _]) HM1.out [0, 0, 0, 0] rfl) rfl
theorem post_p (t d : Nat) (s : DS) (pv pq po pc : Nat) (vp : Value) (draw : Int) (vs : Value) (ms : List MM) (hms : ms.length ≤ 10000) (kind dst seq fo ab : Int) : Does Tryz.prog 79 #[.pointer (some ⟨t, 0, none⟩), (.agg (RawM.enc ⟨kind, 0, dst, seq, fo, ab, none, 0, 0⟩).toArray)] [turnT t d vp draw vs, msgsT vs ms, lanT d s pv pq po pc, viewT pv s.V, queT pq s.Q] (.tuple #[]) [exT fun vs' => [turnT t d vp draw vs', msgsT vs' (ms ++ (postD s kind dst seq fo ab).2), lanT d (postD s kind dst seq fo ab).1 pv pq po pc, viewT pv (postD s kind dst seq fo ab).1.V, queT pq (postD s kind dst seq fo ab).1.Q]] := by
 have h := post_d t d s pv pq po pc vp draw vs ms hms kind dst seq fo ab
 obtain ⟨Q, hQ⟩ := postD_rest s kind dst seq fo ab
 rw [hQ] at h ⊢
 exact h
def helpStep (node : Int) (y : DS × List MM) (p : Int) : DS × List MM := ((postD y.1 3 p y.1.seq 0 node).1, y.2 ++ (postD y.1 3 p y.1.seq 0 node).2)
def helpK (node : Int) (l : List Int) (s : DS) (ms : List MM) (k : Nat) : DS × List MM := (l.take k).foldl (helpStep node) (s, ms)
def helpL (s : DS) (peers : List Int) (draw node : Int) : List Int := some' ((peersOf peers s.self).filter fun p => !(p == node)) 2 draw
def helpD (s : DS) (ms : List MM) (peers : List Int) (draw node : Int) : DS × List MM := (helpL s peers draw node).foldl (helpStep node) (s, ms)
theorem helpK_zero (node : Int) (l : List Int) (s : DS) (ms : List MM) : helpK node l s ms 0 = (s, ms) := by simp [helpK]
theorem helpK_succ {node : Int} {l : List Int} {s : DS} {ms : List MM} {k : Nat} {y : Int} (h : l[k]? = some y) : helpK node l s ms (k + 1) = helpStep node (helpK node l s ms k) y := by
 unfold helpK
 rw [List.take_add_one, h, Option.toList_some, List.foldl_append]
 rfl
theorem helpK_end (node : Int) (l : List Int) (s : DS) (ms : List MM) {k : Nat} (h : l.length ≤ k) : helpK node l s ms k = l.foldl (helpStep node) (s, ms) := by unfold helpK; rw [List.take_of_length_le h]
theorem helpL_len (s : DS) (peers : List Int) (draw node : Int) : (helpL s peers draw node).length ≤ 2 := by
 unfold helpL some'
 rw [List.length_take]
 omega
theorem help_len (node : Int) : ∀ (l : List Int) (y : DS × List MM), (l.foldl (helpStep node) y).2.length ≤ y.2.length + l.length
 | [], y => by simp
 | p :: l, y => by
  rw [List.foldl_cons]
  refine Nat.le_trans (help_len node l _) ?_
  have := postD_len y.1 3 p y.1.seq 0 node
  simp only [helpStep, List.length_append, List.length_cons]
  omega
theorem rowAt_src {P : Program} {α : Type} {E : Elem P α} {W : World} {v : Value} {l : List α} (h : SrcE E W v l) : RowAt E W v l := h.1
set_option maxHeartbeats 4000000 in
set_option maxRecDepth 100000 in
theorem askHelpers_d (t d : Nat) (s : DS) (pv pq po pc : Nat) (vp : Value) (draw : Int) (vs : Value) (R : At) (peers : List Int) (hR : ∀ W H, R.p W H → RowAt elemI W vp peers) (hpl : peers.length ≤ 1000) (ms : List MM) (hms : ms.length ≤ 9000) (node : Int) (h0 : 0 ≤ draw) (h1 : draw < 18446744073709551616) : Does Tryz.prog 75 #[.pointer (some ⟨t, 0, none⟩), .int .i64 node] [turnT t d vp draw vs, msgsT vs ms, lanT d s pv pq po pc, viewT pv s.V, queT pq s.Q, R] (.tuple #[]) [exT fun vs' => [turnT t d vp draw vs', msgsT vs' (helpD s ms peers draw node).2, lanT d (helpD s ms peers draw node).1 pv pq po pc, viewT pv (helpD s ms peers draw node).1.V, queT pq (helpD s ms peers draw node).1.Q], R] := by
 intro w H hp
 have HM0 := Lib.hid (mem_refl hp)
 clear hp
 have hol : ((peersOf peers s.self).filter fun p => !(p == node)).length ≤ 1000 := Nat.le_trans (List.length_filter_le _ _) (Nat.le_trans (peersOf_len _ _) (by omega))
 have hhl : Hid (helpL s peers draw node = some' ((peersOf peers s.self).filter fun p => !(p == node)) 2 draw) := Lib.hid rfl
 go_enter Tryz.func75, Tryz.ntmps75
 refine wp_seq ?_
 refine wp_region_M (fun k => k ∈ ([t] : List Nat)) [(0, 1), (1, 1), (3, 0), (4, 0), (5, 0), (6, 2), (9, 0), (2, 3), (7, 3), (8, 1)] (by kernel_rfl) (by kernel_rfl) HM0.out ?_
 intro W1 hm2
 have HM3 := Lib.hid hm2
 clear hm2
 refine wS1 [0, 1] ?_
 repeat (go_big_quiet_step (fail))
 refine wpQuiet_nil ?_
 refine wS0 [3, 4, 5] ?_
 repeat (go_big_quiet_step (fail))
 refine wpQuiet_nil ?_
 have Ct := Mem.cell HM3.out 0 rfl
 refine wS2 [6] ?_
 repeat (go_big_quiet_step (fail))
 refine wpQuiet_nil ?_
 clear Ct
 refine wS0 [9] ?_
 repeat (go_big_quiet_step (fail))
 refine wpQuiet_nil ?_
 refine wpS_doesUB2 (i := 2) (d := some 8) (rem := [_, _, _]) rfl (by rfl) rfl Tryz.call97 (peersBut_d t d s pv pq po pc vp draw vs R peers hR hpl node) rfl rfl HM3.out [0, 1, 3] rfl (fun _ => rfl) 0 1 rfl (fun _ => rfl) rfl ?_
 rintro u7 W5 hm4 hg6
 have HM8 := Lib.hid hm4
 clear hm4
 simp only [Act.put, pA, pB, pC]
 refine wpS_doesU3 (i := 7) (d := some 13) (rem := [_, _, _, _, _, _]) rfl (by rfl) rfl Tryz.call96 (some_d _ _ _ 2 draw rowT_reads hol h0 h1) rfl rfl rfl HM8.out [0] rfl (covS_box 0 rfl covS_nil) (fun _ => rfl) rfl ?_
 rintro u12 W10 hm9 hg11
 obtain ⟨hp1, hc1, rfl⟩ := row_form (Mem.src hm9 0 rfl rowT_reads)
 have HM13 := Lib.hid hm9
 clear hm9
 simp only [Act.put, pA, pB, pC]
 refine wS1 [8] ?_
 repeat (go_big_quiet_step (fail))
 refine wpQuiet_nil ?_
 refine wpS_nil ?_
 refine then_normal ?_
 refine wp_block ?_
 refine wp_loop_F [5, 15, 16, 17, 18, 19, 20, 21, 22, 23, 24, 25, 26, 27, 28, 29, 30, 31] (fun n vz W' => ∃ (k : Nat) (vs' : Value), n = (helpL s peers draw node).length - k ∧ vz 15 = .int .i64 (k : Int) ∧ k ≤ (helpL s peers draw node).length ∧ Mem [rowT elemI (.slice hp1 (some' ((peersOf peers s.self).filter fun p => !(p == node)) 2 draw).length hc1) (helpL s peers draw node), turnT t d vp draw vs', msgsT vs' (helpK node (helpL s peers draw node) s ms k).2, lanT d (helpK node (helpL s peers draw node) s ms k).1 pv pq po pc, viewT pv (helpK node (helpL s peers draw node) s ms k).1.V, queT pq (helpK node (helpL s peers draw node) s ms k).1.Q, R] H w W') (n0 := (helpL s peers draw node).length) ?_ ?_
 ·refine ⟨0, vs, rfl, rfl, Nat.zero_le _, ?_⟩
  rw [helpK_zero]
  exact (Mem.only (M := [_, _, _, _, _, _, _]) HM13.out [0, 1, 3, 1, 2, 2, 1] rfl)
 rintro n vz W' ⟨k, vs', rfl, e15, hk, hm⟩
 simp only [putAll, List.map_cons, List.map_nil, Act.put, List.setIfInBounds_toArray, List.set_cons_succ, List.set_cons_zero]
 rw [e15]
 clear e15
 have hl2 := helpL_len s peers draw node
 have hyl := help_len node ((helpL s peers draw node).take k) (s, ms)
 rw [List.length_take] at hyl
 obtain ⟨y, hy⟩ : ∃ y, helpK node (helpL s peers draw node) s ms k = y := ⟨_, rfl⟩
 have hyl2 : y.2.length ≤ 10000 := by rw [← hy]; unfold helpK; dsimp only at hyl; omega
 clear hyl
 rw [hy] at hm
 have HM14 := Lib.hid hm
 clear hm
 refine wp_seq ?_
 refine wp_region_N [(0, 1)] (by kernel_rfl) ?_
 refine wS1 [0] ?_
 repeat (go_big_quiet_step (fail))
 refine wpQuiet_nil ?_
 refine wpS_nil ?_
 refine then_normal ?_
 refine wp_seq ?_
 refine wp_cond_split rfl (fun h15 => ?_) (fun h15 => ?_)
 ·have hk1 : k + 1 ≤ (helpL s peers draw node).length := by have : (k : Int) < ((helpL s peers draw node).length : Int) := (by simpa [← hhl.out] using h15); omega
  clear h15
  obtain ⟨yp, hp⟩ : ∃ y, (helpL s peers draw node)[k]? = some y := ⟨_, List.getElem?_eq_getElem hk1⟩
  refine wp_skip ?_
  refine then_normal ?_
  refine wp_seq ?_
  refine wp_block ?_
  refine wp_seq ?_
  refine wp_region_N [(0, 1), (1, 1), (2, 1)] (by kernel_rfl) ?_
  refine wpS_index (E := elemI) (i := 0) (d := some 17) rfl (by rfl) rfl rfl rfl (rowAt_src (HM14.out.src 0 rfl rowT_reads)) (hp) rfl ?_
  intro eb16 eo17 hc18
  simp only [Act.put, pA, pB, pC]
  refine wpS_load1 (i := 1) (d := some 18) (u := .int .i64 yp) rfl (by rfl) rfl rfl (hc18 0 _ rfl) Tryz.underlying3 rfl rfl ?_
  simp only [Act.put, pA, pB, pC]
  refine wS1 [2] ?_
  repeat (go_big_quiet_step (fail))
  refine wpQuiet_nil ?_
  refine wpS_nil ?_
  refine then_normal ?_
  refine wp_region_N [(0, 1), (1, 1), (2, 1), (3, 1), (4, 1), (5, 1), (6, 1), (7, 1), (8, 1), (9, 1), (10, 1), (11, 3)] (by kernel_rfl) ?_
  have Ct := Mem.cell HM14.out 1 rfl
  have Cd := Mem.cell HM14.out 3 rfl
  refine wS1 [0, 1, 2, 3, 4, 5, 6, 7, 8, 9, 10] ?_
  repeat (go_big_quiet_step (fail))
  refine wpQuiet_nil ?_
  clear Ct Cd
  refine wpS_does2 (i := 11) (d := some 30) (rem := [_, _]) (out := [_, _, _]) rfl (by rfl) rfl Tryz.call79 (post_p t d y.1 pv pq po pc vp draw vs' y.2 hyl2 3 yp y.1.seq 0 node) rfl rfl HM14.out [1, 1, 1, 1, 1] rfl covS_nil rfl rfl ?_
  rintro W20 hm19 -
  obtain ⟨vs2, hm19⟩ := Mem.ex hm19
  have HM21 := Lib.hid hm19
  clear hm19
  simp only [Act.put, pA, pB, pC]
  refine wpS_nil ?_
  refine block_normal ?_
  refine then_normal ?_
  refine wp_region_N [(0, 1), (1, 1)] (by kernel_rfl) ?_
  refine wS1 [0, 1] ?_
  repeat (go_big_quiet_step (fail))
  refine wpQuiet_nil ?_
  refine wpS_nil ?_
  refine then_normal ?_
  refine ⟨by kernel_rfl, ?_⟩
  have hst := helpK_succ (node := node) (s := s) (ms := ms) hp
  rw [hy] at hst
  refine ⟨(helpL s peers draw node).length - (k + 1), by omega, k + 1, vs2, rfl, rfl, hk1, ?_⟩
  rw [hst]
  exact (Mem.only (M := [_, _, _, _, _, _, _]) HM21.out [5, 0, 0, 0, 0, 0, 0] rfl)
 ·have hge : Hid ((helpL s peers draw node).length ≤ k) := Lib.hid (by have : ¬ (k : Int) < ((helpL s peers draw node).length : Int) := (by simpa [← hhl.out] using h15); omega)
  clear h15
  refine wp_exit ?_
  refine then_exit (then_exit (block_exit ?_))
  refine bodyPost_end (results_none rfl _ _ _) rfl ?_
  have hfin := helpK_end node (helpL s peers draw node) s ms (k := k) hge.out
  rw [hy] at hfin
  have hH : helpD s ms peers draw node = y := hfin.symm
  rw [hH]
  exact does_ret (M := [exT _, R]) (Mem.addEx (f := fun vs' => [turnT t d vp draw vs', msgsT vs' y.2, lanT d y.1 pv pq po pc, viewT pv y.1.V, queT pq y.1.Q]) vs' (Mem.only (M := [_, _, _, _, _, _]) HM14.out [1, 1, 1, 1, 1, 1] rfl)) rfl rfl
end Go.Proofs.YtjbihgfdgaiecaaGreat

/- The landed detector: the next one is asked; what is due. -/
namespace Go.Proofs.YtjbihgfdgaiecaaGreat
open Go Go.RowKit Go.BigFrame
theorem postD_out {s : DS} {kind dst seq fo ab : Int} (h : s.left = false) : postD s kind dst seq fo ab = ((sendD s kind dst seq fo ab).1, [(sendD s kind dst seq fo ab).2]) := by
 unfold postD
 rw [if_neg (by rw [h]; decide)]
theorem peersOf_in {l : List Int} {self x : Int} (h : x ∈ peersOf l self) : 0 ≤ x ∧ x < 8 := by
 unfold peersOf peersF at h
 obtain ⟨j, hj, rfl⟩ := List.mem_map.1 h
 have := List.mem_range.1 (List.mem_filter.1 hj).1
 omega
theorem nextOf_in {self : Int} {O l : List Int} {draw : Int} : (nextOf self O l draw).1 = -1 ∨ (0 ≤ (nextOf self O l draw).1 ∧ (nextOf self O l draw).1 < 8) := by
 unfold nextOf
 split
 ·exact .inl rfl
 ·dsimp only
  have hall : ∀ x ∈ leftNow O (peersOf l self) draw, 0 ≤ x ∧ x < 8 := by
   intro x hx
   unfold leftNow at hx
   split at hx
   ·exact peersOf_in (List.mem_of_mem_take ((shuf_perm _ _).subset hx))
   ·rename_i y r e
    rw [← e] at hx
    have := (List.mem_filter.1 hx).2
    exact peersOf_in (by simpa using this)
  cases hl : leftNow O (peersOf l self) draw with
  | nil => exact .inl rfl
  | cons y r => exact .inr (hall y (by rw [hl]; exact List.mem_cons_self))
def seqNext (q : Int) : Int := if 1000000 < q + 1 then 1 else q + 1
def nextD (s : DS) (ms : List MM) (peers : List Int) (draw : Int) : DS × List MM :=
 if (nextOf s.self s.O peers draw).1 < 0 then ({ s with asked := (nextOf s.self s.O peers draw).1, O := (nextOf s.self s.O peers draw).2 }, ms)
 else
  let s2 : DS := { s with asked := (nextOf s.self s.O peers draw).1, O := (nextOf s.self s.O peers draw).2, seq := seqNext s.seq }
  ({ (postD s2 1 s2.asked s2.seq s2.self 0).1 with C := setM (setM s.C ⟨1, s.now + 2⟩) ⟨2, s.now + 4⟩ }, ms ++ (postD s2 1 s2.asked s2.seq s2.self 0).2)
theorem askD_next {s : DS} {ms : List MM} {peers : List Int} {draw : Int} (hl : s.left = false) (ha : s.asked = -1) : askD peers draw (s, ms) = nextD s ms peers draw := by
 unfold askD nextD
 rw [if_neg (by dsimp only; omega)]
 dsimp only
 split
 ·rfl
 ·rw [postD_out (by exact hl)]
  rfl
theorem seq_next {q : Int} (h : 0 ≤ q ∧ q ≤ 1000000) : q % 1000000 + 1 = seqNext q := by
 unfold seqNext
 split <;> omega
set_option maxHeartbeats 4000000 in
set_option maxRecDepth 100000 in
theorem askNext_none (t d : Nat) (s : DS) (pv pq po pc : Nat) (vp : Value) (draw : Int) (vs : Value) (R : At) (peers : List Int) (hR : ∀ W H, R.p W H → RowAt elemI W vp peers) (hpl : peers.length ≤ 1000) (ms : List MM) (hms : ms.length ≤ 10000) (hs : LOk s) (h0 : 0 ≤ draw) (h1 : draw < 18446744073709551616) (hn : (nextOf s.self s.O peers draw).1 = -1) : Does Tryz.prog 52 #[.pointer (some ⟨t, 0, none⟩)] ([turnT t d vp draw vs, msgsT vs ms] ++ LP d s pv pq po pc ++ [R]) (.tuple #[]) [exT fun vs' => [turnT t d vp draw vs', msgsT vs' (nextD s ms peers draw).2] ++ LP d (nextD s ms peers draw).1 pv pq po pc, R] := by
 intro w H hp
 have HM0 := Lib.hid (mem_refl hp)
 clear hp
 obtain ⟨n1, hn1⟩ : ∃ n, (nextOf s.self s.O peers draw).1 = n := ⟨_, rfl⟩
 have HN : Hid (Does Tryz.prog 78 #[.pointer (some ⟨po, 0, none⟩), vp, .int .u64 draw] [R, ordT po s.self s.O] (.int .i64 n1) [R, ordT po s.self (nextOf s.self s.O peers draw).2]) := Lib.hid (by have := ord_next po s.self s.O peers draw R vp hR hpl h0 h1; rw [hn1] at this; exact this)
 have hD : Hid (nextD s ms peers draw = ({ s with asked := n1, O := (nextOf s.self s.O peers draw).2 }, ms)) := Lib.hid (by unfold nextD; rw [if_pos (by rw [hn]; decide), hn1])
 rw [hn1] at hn
 have g1 : (n1 == -1) = true := by rw [beq_iff_eq]; exact hn
 clear hn hn1
 go_enter Tryz.func52, Tryz.ntmps52
 refine wp_seq ?_
 refine wp_region_M (fun k => k ∈ ([t] : List Nat)) [(0, 0), (1, 0), (2, 0), (3, 2), (4, 1), (5, 1), (6, 1), (7, 1), (8, 1), (9, 1), (10, 1), (11, 1), (12, 1), (13, 1), (14, 1), (15, 1), (16, 1), (17, 1), (18, 1), (19, 3), (20, 1), (21, 1), (22, 4)] (by kernel_rfl) (by kernel_rfl) HM0.out ?_
 intro W1 hm2
 have HM3 := Lib.hid hm2
 clear hm2
 refine wS0 [0, 1, 2] ?_
 repeat (go_big_quiet_step (fail))
 refine wpQuiet_nil ?_
 have Ct := Mem.cell HM3.out 0 rfl
 refine wS2 [3] ?_
 repeat (go_big_quiet_step (fail))
 refine wpQuiet_nil ?_
 clear Ct
 have Ct := Mem.cell HM3.out 0 rfl
 have Cd := Mem.cell HM3.out 2 rfl
 refine wS1 [4, 5, 6, 7, 8, 9, 10, 11, 12, 13, 14, 15, 16, 17, 18] ?_
 repeat (go_big_quiet_step (fail))
 refine wpQuiet_nil ?_
 clear Ct Cd
 refine wpS_does3 (i := 19) (d := some 21) (rem := [_, _, _, _, _, _]) (out := [_, _, _, _, _, _, _, _]) rfl (by rfl) rfl Tryz.call78 (HN.out) rfl rfl rfl HM3.out [7, 5] rfl (covS_box 0 rfl covS_nil) rfl rfl ?_
 rintro W5 hm4 hg6
 have HM7 := Lib.hid hm4
 clear hm4
 simp only [Act.put, pA, pB, pC]
 refine wS1 [20, 21] ?_
 repeat (go_big_quiet_step (fail))
 refine wpQuiet_nil ?_
 refine wpS_store14 (i := 22) (v := .int _ _) (L2 := [_, _, _, _, _, _, _]) (cs' := [_, _, _, _, _, _, _, _, _, _, _]) rfl (by rfl) rfl rfl rfl rfl (by kernel_rfl) rfl HM7.out 4 rfl rfl rfl rfl  rfl ?_
 rintro W9 hm8
 have HM11 := Lib.hid hm8
 clear hm8
 refine wpS_nil ?_
 refine then_normal ?_
 refine wp_seq ?_
 refine wp_seq ?_
 refine wp_region_N [(0, 1), (1, 1), (2, 1), (3, 1), (4, 1), (5, 1), (6, 1), (7, 1)] (by kernel_rfl) ?_
 have Ct := Mem.cell HM11.out 3 rfl
 have Cd := Mem.cell HM11.out 0 rfl
 refine wS1 [0, 1, 2, 3, 4, 5, 6, 7] ?_
 repeat (go_big_quiet_step (fail))
 refine wpQuiet_nil ?_
 clear Ct Cd
 refine wpS_nil ?_
 refine then_normal ?_
 refine wp_cond_true rfl ?_
 refine wp_ret ?_
 refine then_ret ?_
 refine bodyPost_ret (results_none rfl _ _ _) rfl ?_
 refine does_ret (M := [exT _, R]) (Mem.addEx (f := fun vs' => [turnT t d vp draw vs', msgsT vs' (nextD s ms peers draw).2] ++ LP d (nextD s ms peers draw).1 pv pq po pc) vs ?_) rfl rfl
 rw [hD.out]
 exact (Mem.only (M := [_, _, _, _, _, _, _, _]) HM11.out [3, 3, 0, 2, 2, 1, 1, 0] rfl)
set_option maxHeartbeats 4000000 in
set_option maxRecDepth 100000 in
theorem askNext_some (t d : Nat) (s : DS) (pv pq po pc : Nat) (vp : Value) (draw : Int) (vs : Value) (R : At) (peers : List Int) (hR : ∀ W H, R.p W H → RowAt elemI W vp peers) (hpl : peers.length ≤ 1000) (ms : List MM) (hms : ms.length ≤ 10000) (hs : LOk s) (h0 : 0 ≤ draw) (h1 : draw < 18446744073709551616) (hn : 0 ≤ (nextOf s.self s.O peers draw).1 ∧ (nextOf s.self s.O peers draw).1 < 8) : Does Tryz.prog 52 #[.pointer (some ⟨t, 0, none⟩)] ([turnT t d vp draw vs, msgsT vs ms] ++ LP d s pv pq po pc ++ [R]) (.tuple #[]) [exT fun vs' => [turnT t d vp draw vs', msgsT vs' (nextD s ms peers draw).2] ++ LP d (nextD s ms peers draw).1 pv pq po pc, R] := by
 intro w H hp
 have HM0 := Lib.hid (mem_refl hp)
 clear hp
 obtain ⟨n1, hn1⟩ : ∃ n, (nextOf s.self s.O peers draw).1 = n := ⟨_, rfl⟩
 have HN : Hid (Does Tryz.prog 78 #[.pointer (some ⟨po, 0, none⟩), vp, .int .u64 draw] [R, ordT po s.self s.O] (.int .i64 n1) [R, ordT po s.self (nextOf s.self s.O peers draw).2]) := Lib.hid (by have := ord_next po s.self s.O peers draw R vp hR hpl h0 h1; rw [hn1] at this; exact this)
 have hD : Hid (nextD s ms peers draw = ({ (postD { s with asked := n1, O := (nextOf s.self s.O peers draw).2, seq := seqNext s.seq } 1 n1 (seqNext s.seq) s.self 0).1 with C := setM (setM s.C ⟨1, s.now + 2⟩) ⟨2, s.now + 4⟩ }, ms ++ (postD { s with asked := n1, O := (nextOf s.self s.O peers draw).2, seq := seqNext s.seq } 1 n1 (seqNext s.seq) s.self 0).2)) := Lib.hid (by unfold nextD; rw [if_neg (by omega), hn1])
 rw [hn1] at hn
 have g1 : (n1 == -1) = false := by rw [beq_eq_false_iff_ne]; omega
 obtain ⟨hq0, hq1⟩ := hs.seq
 obtain ⟨ht0, ht1⟩ := hs.now
 have hsq := Lib.hid (seq_next hs.seq)
 have hok1 : okM ⟨1, s.now + 2⟩ = true := by simp only [okM, decide_eq_true_eq]; omega
 have hok2 : okM ⟨2, s.now + 4⟩ = true := by simp only [okM, decide_eq_true_eq]; omega
 clear hn hn1
 go_enter Tryz.func52, Tryz.ntmps52
 refine wp_seq ?_
 refine wp_region_M (fun k => k ∈ ([t] : List Nat)) [(0, 0), (1, 0), (2, 0), (3, 2), (4, 1), (5, 1), (6, 1), (7, 1), (8, 1), (9, 1), (10, 1), (11, 1), (12, 1), (13, 1), (14, 1), (15, 1), (16, 1), (17, 1), (18, 1), (19, 3), (20, 1), (21, 1), (22, 4)] (by kernel_rfl) (by kernel_rfl) HM0.out ?_
 intro W1 hm2
 have HM3 := Lib.hid hm2
 clear hm2
 refine wS0 [0, 1, 2] ?_
 repeat (go_big_quiet_step (fail))
 refine wpQuiet_nil ?_
 have Ct := Mem.cell HM3.out 0 rfl
 refine wS2 [3] ?_
 repeat (go_big_quiet_step (fail))
 refine wpQuiet_nil ?_
 clear Ct
 have Ct := Mem.cell HM3.out 0 rfl
 have Cd := Mem.cell HM3.out 2 rfl
 refine wS1 [4, 5, 6, 7, 8, 9, 10, 11, 12, 13, 14, 15, 16, 17, 18] ?_
 repeat (go_big_quiet_step (fail))
 refine wpQuiet_nil ?_
 clear Ct Cd
 refine wpS_does3 (i := 19) (d := some 21) (rem := [_, _, _, _, _, _]) (out := [_, _, _, _, _, _, _, _]) rfl (by rfl) rfl Tryz.call78 (HN.out) rfl rfl rfl HM3.out [7, 5] rfl (covS_box 0 rfl covS_nil) rfl rfl ?_
 rintro W5 hm4 hg6
 have HM7 := Lib.hid hm4
 clear hm4
 simp only [Act.put, pA, pB, pC]
 refine wS1 [20, 21] ?_
 repeat (go_big_quiet_step (fail))
 refine wpQuiet_nil ?_
 refine wpS_store14 (i := 22) (v := .int _ _) (L2 := [_, _, _, _, _, _, _]) (cs' := [_, _, _, _, _, _, _, _, _, _, _]) rfl (by rfl) rfl rfl rfl rfl (by kernel_rfl) rfl HM7.out 4 rfl rfl rfl rfl  rfl ?_
 rintro W9 hm8
 have HM11 := Lib.hid hm8
 clear hm8
 refine wpS_nil ?_
 refine then_normal ?_
 refine wp_seq ?_
 refine wp_seq ?_
 refine wp_region_N [(0, 1), (1, 1), (2, 1), (3, 1), (4, 1), (5, 1), (6, 1), (7, 1)] (by kernel_rfl) ?_
 have Ct := Mem.cell HM11.out 3 rfl
 have Cd := Mem.cell HM11.out 0 rfl
 refine wS1 [0, 1, 2, 3, 4, 5, 6, 7] ?_
 repeat (go_big_quiet_step (fail))
 refine wpQuiet_nil ?_
 clear Ct Cd
 refine wpS_nil ?_
 refine then_normal ?_
 refine wp_cond_false rfl ?_
 refine wp_skip ?_
 refine then_normal ?_
 refine wp_seq ?_
 refine wp_region_M (fun k => k ∈ ([] : List Nat)) [(0, 1), (1, 1), (2, 1), (3, 1), (4, 1), (5, 1), (6, 1), (7, 1), (8, 1), (9, 1), (10, 1), (11, 1), (12, 1), (13, 1), (14, 1), (15, 3)] (by kernel_rfl) (by kernel_rfl) HM11.out ?_
 intro W12 hm13
 have HM14 := Lib.hid hm13
 clear hm13
 have Ct := Mem.cell HM14.out 3 rfl
 have Cd := Mem.cell HM14.out 0 rfl
 refine wS1 [0, 1, 2, 3, 4, 5, 6, 7, 8, 9, 10, 11, 12, 13, 14] ?_
 repeat (go_big_quiet_step (fail))
 refine wpQuiet_nil ?_
 clear Ct Cd
 refine wpS_store1 (i := 15) (v := .int _ _) (L2 := [_, _, _, _, _, _, _]) (cs' := [_, _, _, _, _, _, _, _, _, _, _]) rfl (by rfl) rfl rfl rfl rfl (by kernel_rfl) rfl HM14.out 0 rfl rfl rfl rfl covS_nil rfl ?_
 rintro W16 hm15 -
 have HM17 := Lib.hid hm15
 clear hm15
 refine wpS_nil ?_
 refine then_normal ?_
 refine wp_seq ?_
 rw [hsq.out] at HM17
 refine wp_region_M (fun k => k ∈ ([] : List Nat)) [(0, 1), (1, 1), (2, 1), (3, 1), (4, 1), (5, 1), (6, 1), (7, 1), (8, 1), (9, 1), (10, 1), (11, 1), (12, 1), (13, 1), (14, 1), (15, 1), (16, 1), (17, 1), (18, 1), (19, 1), (20, 1), (21, 1), (22, 1), (23, 3)] (by kernel_rfl) (by kernel_rfl) HM17.out ?_
 intro W18 hm19
 have HM20 := Lib.hid hm19
 clear hm19
 have Ct := Mem.cell HM20.out 3 rfl
 have Cd := Mem.cell HM20.out 0 rfl
 refine wS1 [0, 1, 2, 3, 4, 5, 6, 7, 8, 9, 10, 11, 12, 13, 14, 15, 16, 17, 18, 19, 20, 21, 22] ?_
 repeat (go_big_quiet_step (fail))
 refine wpQuiet_nil ?_
 clear Ct Cd
 refine wpS_does2 (i := 23) (d := some 70) (rem := [_, _, _]) (out := [_, _, _, _]) rfl (by rfl) rfl Tryz.call79 (post_p t d { s with asked := n1, O := (nextOf s.self s.O peers draw).2, seq := seqNext s.seq } pv pq po pc vp draw vs ms hms 1 n1 (seqNext s.seq) s.self 0) rfl rfl HM20.out [3, 3, 0, 2, 2] rfl covS_nil rfl rfl ?_
 rintro W22 hm21 -
 obtain ⟨vs2, hm21⟩ := Mem.ex hm21
 obtain ⟨Q', hQ⟩ := postD_rest { s with asked := n1, O := (nextOf s.self s.O peers draw).2, seq := seqNext s.seq } 1 n1 (seqNext s.seq) s.self 0
 rw [hQ] at hm21 hD
 have HM23 := Lib.hid hm21
 clear hm21
 simp only [Act.put, pA, pB, pC]
 refine wpS_nil ?_
 refine then_normal ?_
 refine wp_seq ?_
 refine wp_region_M (fun k => k ∈ ([] : List Nat)) [(0, 1), (1, 1), (2, 1), (3, 1), (4, 1), (5, 1), (6, 1), (7, 1), (8, 1), (9, 1), (10, 1), (11, 1), (12, 1), (13, 1), (14, 1), (15, 3)] (by kernel_rfl) (by kernel_rfl) HM23.out ?_
 intro W24 hm25
 have HM26 := Lib.hid hm25
 clear hm25
 have Ct := Mem.cell HM26.out 0 rfl
 have Cd := Mem.cell HM26.out 2 rfl
 refine wS1 [0, 1, 2, 3, 4, 5, 6, 7, 8, 9, 10, 11, 12, 13, 14] ?_
 repeat (go_big_quiet_step (fail))
 refine wpQuiet_nil ?_
 clear Ct Cd
 refine wpS_does3 (i := 15) (d := some 86) (rem := [_, _, _, _, _, _, _]) (out := [_, _, _, _, _, _, _, _]) rfl (by rfl) rfl Tryz.call80 (clk_set pc s.C 1 (s.now + 2) hok1) rfl rfl rfl HM26.out [7] rfl covS_nil rfl rfl ?_
 rintro W28 hm27 -
 have HM29 := Lib.hid hm27
 clear hm27
 simp only [Act.put, pA, pB, pC]
 refine wpS_nil ?_
 refine then_normal ?_
 refine wp_region_M (fun k => k ∈ ([] : List Nat)) [(0, 1), (1, 1), (2, 1), (3, 1), (4, 1), (5, 1), (6, 1), (7, 1), (8, 1), (9, 1), (10, 1), (11, 1), (12, 1), (13, 1), (14, 1), (15, 3)] (by kernel_rfl) (by kernel_rfl) HM29.out ?_
 intro W30 hm31
 have HM32 := Lib.hid hm31
 clear hm31
 have Ct := Mem.cell HM32.out 1 rfl
 have Cd := Mem.cell HM32.out 3 rfl
 refine wS1 [0, 1, 2, 3, 4, 5, 6, 7, 8, 9, 10, 11, 12, 13, 14] ?_
 repeat (go_big_quiet_step (fail))
 refine wpQuiet_nil ?_
 clear Ct Cd
 refine wpS_does3 (i := 15) (d := some 102) (rem := [_, _, _, _, _, _, _]) (out := [_, _, _, _, _, _, _, _]) rfl (by rfl) rfl Tryz.call80 (clk_set pc (setM s.C ⟨1, s.now + 2⟩) 2 (s.now + 4) hok2) rfl rfl rfl HM32.out [0] rfl covS_nil rfl rfl ?_
 rintro W34 hm33 -
 have HM35 := Lib.hid hm33
 clear hm33
 simp only [Act.put, pA, pB, pC]
 refine wpS_nil ?_
 refine bodyPost_end (results_none rfl _ _ _) rfl ?_
 refine does_ret (M := [exT _, R]) (Mem.addEx (f := fun vs' => [turnT t d vp draw vs', msgsT vs' (nextD s ms peers draw).2] ++ LP d (nextD s ms peers draw).1 pv pq po pc) vs2 ?_) rfl rfl
 rw [hD.out]
 exact (Mem.only (M := [_, _, _, _, _, _, _, _]) HM35.out [1, 1, 1, 1, 1, 2, 0, 0] rfl)
theorem askNext_d (t d : Nat) (s : DS) (pv pq po pc : Nat) (vp : Value) (draw : Int) (vs : Value) (R : At) (peers : List Int) (hR : ∀ W H, R.p W H → RowAt elemI W vp peers) (hpl : peers.length ≤ 1000) (ms : List MM) (hms : ms.length ≤ 10000) (hs : LOk s) (h0 : 0 ≤ draw) (h1 : draw < 18446744073709551616) : Does Tryz.prog 52 #[.pointer (some ⟨t, 0, none⟩)] ([turnT t d vp draw vs, msgsT vs ms] ++ LP d s pv pq po pc ++ [R]) (.tuple #[]) [exT fun vs' => [turnT t d vp draw vs', msgsT vs' (nextD s ms peers draw).2] ++ LP d (nextD s ms peers draw).1 pv pq po pc, R] := by
 rcases nextOf_in (self := s.self) (O := s.O) (l := peers) (draw := draw) with hn | hn
 ·exact askNext_none t d s pv pq po pc vp draw vs R peers hR hpl ms hms hs h0 h1 hn
 ·exact askNext_some t d s pv pq po pc vp draw vs R peers hR hpl ms hms hs h0 h1 hn
set_option maxHeartbeats 4000000 in
set_option maxRecDepth 100000 in
theorem whenDue_one (t d : Nat) (s : DS) (pv pq po pc : Nat) (vp : Value) (draw : Int) (vs : Value) (id : Int) (hid : id = 1) : Does Tryz.prog 51 #[.pointer (some ⟨t, 0, none⟩), .int .i64 id] [turnT t d vp draw vs, lanT d s pv pq po pc] (.tuple #[.func (.func 75) #[.pointer (some ⟨t, 0, none⟩)] #[], .int .i64 s.asked]) [turnT t d vp draw vs, lanT d s pv pq po pc] := by
 intro w H hp
 have HM0 := Lib.hid (mem_refl hp)
 clear hp
 have g1 : (id == 1) = true := by rw [beq_iff_eq]; exact hid
 clear hid
 go_enter Tryz.func51, Tryz.ntmps51
 refine wp_seq ?_
 refine wp_region_N [(0, 1), (1, 1)] (by kernel_rfl) ?_
 refine wS1 [0, 1] ?_
 repeat (go_big_quiet_step (fail))
 refine wpQuiet_nil ?_
 refine wpS_nil ?_
 refine then_normal ?_
 refine wp_seq ?_
 refine wp_seq ?_
 refine wp_region_N [(0, 1)] (by kernel_rfl) ?_
 refine wS1 [0] ?_
 repeat (go_big_quiet_step (fail))
 refine wpQuiet_nil ?_
 refine wpS_nil ?_
 refine then_normal ?_
 refine wp_block ?_
 refine wp_seq ?_
 refine wp_region_N [(0, 1), (1, 1)] (by kernel_rfl) ?_
 refine wS1 [0, 1] ?_
 repeat (go_big_quiet_step (fail))
 refine wpQuiet_nil ?_
 refine wpS_nil ?_
 refine then_normal ?_
 refine wp_cond_true rfl ?_
 refine wp_seq ?_
 refine wp_region_M (fun k => k ∈ ([] : List Nat)) [(0, 1), (1, 0), (2, 1), (3, 1), (4, 1), (5, 1), (6, 1), (7, 1), (8, 1), (9, 1), (10, 1)] (by kernel_rfl) (by kernel_rfl) HM0.out ?_
 intro W1 hm2
 have HM3 := Lib.hid hm2
 clear hm2
 refine wS1 [0] ?_
 repeat (go_big_quiet_step (fail))
 refine wpQuiet_nil ?_
 refine wpS_func1 (i := 1) (d := some 10) (v := .pointer (some ⟨t, 0, none⟩)) rfl (by rfl) rfl rfl rfl ?_
 simp only [Act.put, pA, pB, pC]
 have Ct := Mem.cell HM3.out 0 rfl
 have Cd := Mem.cell HM3.out 1 rfl
 refine wS1 [2, 3, 4, 5, 6, 7, 8, 9, 10] ?_
 repeat (go_big_quiet_step (fail))
 refine wpQuiet_nil ?_
 clear Ct Cd
 refine wpS_nil ?_
 refine then_normal ?_
 refine wp_ret ?_
 refine block_ret (then_ret ?_)
 refine bodyPost_ret (results_tmp2 rfl _ _ _) rfl ?_
 exact does_ret (Mem.only (M := [_, _]) HM3.out [0, 0] rfl) rfl rfl
set_option maxHeartbeats 4000000 in
set_option maxRecDepth 100000 in
theorem whenDue_two (t d : Nat) (s : DS) (pv pq po pc : Nat) (vp : Value) (draw : Int) (vs : Value) (id : Int) (hid : id = 2) : Does Tryz.prog 51 #[.pointer (some ⟨t, 0, none⟩), .int .i64 id] [turnT t d vp draw vs, lanT d s pv pq po pc] (.tuple #[.func (.func 76) #[.pointer (some ⟨d, 0, none⟩)] #[], .int .i64 s.asked]) [turnT t d vp draw vs, lanT d s pv pq po pc] := by
 intro w H hp
 have HM0 := Lib.hid (mem_refl hp)
 clear hp
 have g1 : (id == 1) = false := by rw [beq_eq_false_iff_ne]; exact (by omega)
 have g2 : (id == 2) = true := by rw [beq_iff_eq]; exact hid
 clear hid
 go_enter Tryz.func51, Tryz.ntmps51
 refine wp_seq ?_
 refine wp_region_N [(0, 1), (1, 1)] (by kernel_rfl) ?_
 refine wS1 [0, 1] ?_
 repeat (go_big_quiet_step (fail))
 refine wpQuiet_nil ?_
 refine wpS_nil ?_
 refine then_normal ?_
 refine wp_seq ?_
 refine wp_seq ?_
 refine wp_region_N [(0, 1)] (by kernel_rfl) ?_
 refine wS1 [0] ?_
 repeat (go_big_quiet_step (fail))
 refine wpQuiet_nil ?_
 refine wpS_nil ?_
 refine then_normal ?_
 refine wp_block ?_
 refine wp_seq ?_
 refine wp_region_N [(0, 1), (1, 1)] (by kernel_rfl) ?_
 refine wS1 [0, 1] ?_
 repeat (go_big_quiet_step (fail))
 refine wpQuiet_nil ?_
 refine wpS_nil ?_
 refine then_normal ?_
 refine wp_cond_false rfl ?_
 refine wp_seq ?_
 refine wp_region_N [(0, 1), (1, 1)] (by kernel_rfl) ?_
 refine wS1 [0, 1] ?_
 repeat (go_big_quiet_step (fail))
 refine wpQuiet_nil ?_
 refine wpS_nil ?_
 refine then_normal ?_
 refine wp_cond_true rfl ?_
 refine wp_seq ?_
 refine wp_region_M (fun k => k ∈ ([] : List Nat)) [(0, 1), (1, 1), (2, 1), (3, 1), (4, 0), (5, 1), (6, 1), (7, 1), (8, 1), (9, 1), (10, 1), (11, 1), (12, 1), (13, 1)] (by kernel_rfl) (by kernel_rfl) HM0.out ?_
 intro W1 hm2
 have HM3 := Lib.hid hm2
 clear hm2
 have Ct := Mem.cell HM3.out 0 rfl
 refine wS1 [0, 1, 2, 3] ?_
 repeat (go_big_quiet_step (fail))
 refine wpQuiet_nil ?_
 clear Ct
 refine wpS_func1 (i := 4) (d := some 24) (v := .pointer (some ⟨d, 0, none⟩)) rfl (by rfl) rfl rfl rfl ?_
 simp only [Act.put, pA, pB, pC]
 have Ct := Mem.cell HM3.out 0 rfl
 have Cd := Mem.cell HM3.out 1 rfl
 refine wS1 [5, 6, 7, 8, 9, 10, 11, 12, 13] ?_
 repeat (go_big_quiet_step (fail))
 refine wpQuiet_nil ?_
 clear Ct Cd
 refine wpS_nil ?_
 refine then_normal ?_
 refine wp_ret ?_
 refine block_ret (then_ret ?_)
 refine bodyPost_ret (results_tmp2 rfl _ _ _) rfl ?_
 exact does_ret (Mem.only (M := [_, _]) HM3.out [0, 0] rfl) rfl rfl
set_option maxHeartbeats 4000000 in
set_option maxRecDepth 100000 in
theorem whenDue_else (t d : Nat) (s : DS) (pv pq po pc : Nat) (vp : Value) (draw : Int) (vs : Value) (id : Int) (h1 : id ≠ 1) (h2 : id ≠ 2) (hb : 0 ≤ id ∧ id ≤ 999) : Does Tryz.prog 51 #[.pointer (some ⟨t, 0, none⟩), .int .i64 id] [turnT t d vp draw vs, lanT d s pv pq po pc] (.tuple #[.func (.func 77) #[.pointer (some ⟨d, 0, none⟩)] #[], .int .i64 (id - 100)]) [turnT t d vp draw vs, lanT d s pv pq po pc] := by
 intro w H hp
 have HM0 := Lib.hid (mem_refl hp)
 clear hp
 have g1 : (id == 1) = false := by rw [beq_eq_false_iff_ne]; exact h1
 have g2 : (id == 2) = false := by rw [beq_eq_false_iff_ne]; exact h2
 obtain ⟨hb0, hb1⟩ := hb
 clear h1 h2
 go_enter Tryz.func51, Tryz.ntmps51
 refine wp_seq ?_
 refine wp_region_N [(0, 1), (1, 1)] (by kernel_rfl) ?_
 refine wS1 [0, 1] ?_
 repeat (go_big_quiet_step (fail))
 refine wpQuiet_nil ?_
 refine wpS_nil ?_
 refine then_normal ?_
 refine wp_seq ?_
 refine wp_seq ?_
 refine wp_region_N [(0, 1)] (by kernel_rfl) ?_
 refine wS1 [0] ?_
 repeat (go_big_quiet_step (fail))
 refine wpQuiet_nil ?_
 refine wpS_nil ?_
 refine then_normal ?_
 refine wp_block ?_
 refine wp_seq ?_
 refine wp_region_N [(0, 1), (1, 1)] (by kernel_rfl) ?_
 refine wS1 [0, 1] ?_
 repeat (go_big_quiet_step (fail))
 refine wpQuiet_nil ?_
 refine wpS_nil ?_
 refine then_normal ?_
 refine wp_cond_false rfl ?_
 refine wp_seq ?_
 refine wp_region_N [(0, 1), (1, 1)] (by kernel_rfl) ?_
 refine wS1 [0, 1] ?_
 repeat (go_big_quiet_step (fail))
 refine wpQuiet_nil ?_
 refine wpS_nil ?_
 refine then_normal ?_
 refine wp_cond_false rfl ?_
 refine wp_skip ?_
 refine block_normal ?_
 refine then_normal ?_
 refine wp_seq ?_
 refine wp_region_N [(0, 1), (1, 1), (2, 1), (3, 1), (4, 0), (5, 1), (6, 1), (7, 1), (8, 1)] (by kernel_rfl) ?_
 have Ct := Mem.cell HM0.out 0 rfl
 refine wS1 [0, 1, 2, 3] ?_
 repeat (go_big_quiet_step (fail))
 refine wpQuiet_nil ?_
 clear Ct
 refine wpS_func1 (i := 4) (d := some 36) (v := .pointer (some ⟨d, 0, none⟩)) rfl (by rfl) rfl rfl rfl ?_
 simp only [Act.put, pA, pB, pC]
 refine wS1 [5, 6, 7, 8] ?_
 repeat (go_big_quiet_step (fail))
 refine wpQuiet_nil ?_
 refine wpS_nil ?_
 refine then_normal ?_
 refine wp_ret ?_
 refine bodyPost_ret (results_tmp2 rfl _ _ _) rfl ?_
 exact does_ret (Mem.only (M := [_, _]) HM0.out [0, 0] rfl) rfl rfl
end Go.Proofs.YtjbihgfdgaiecaaGreat

/- The landed detector: Tick. -/
namespace Go.Proofs.YtjbihgfdgaiecaaGreat
open Go Go.RowKit Go.BigFrame
theorem clk_due (m : Nat) (L : List Mo) (now : Int) : DoesU Tryz.prog 50 #[.pointer (some ⟨m, 0, none⟩), .int .i64 now] [clkT m L] fun u => [rowT elemI u ((dueM L now).map Mo.n), clkT m (restM L now)] := DoesU.of_trip (A := clkT m L) (clkB_due m L now) fun u W H h => star_mono (fun _ h => h) (fun _ h => star_comm (starl_emp h)) h
theorem clk_fine {b : Nat} {C : List Mo} {L : List At} {H : Nat → Prop} {w W : World} (h : Mem L H w W) (k : Nat) (hk : L[k]? = some (clkT b C)) : FineM C := h.have k hk fun _ h => h.1
theorem helpStep_rest (node : Int) : ∀ (l : List Int) (y : DS × List MM), ∃ Q, (l.foldl (helpStep node) y).1 = { y.1 with Q := Q }
 | [], y => ⟨y.1.Q, rfl⟩
 | p :: l, y => by
  rw [List.foldl_cons]
  obtain ⟨Q, hQ⟩ := postD_rest y.1 3 p y.1.seq 0 node
  obtain ⟨Q2, h2⟩ := helpStep_rest node l (helpStep node y p)
  refine ⟨Q2, ?_⟩
  rw [h2]
  show { (postD y.1 3 p y.1.seq 0 node).1 with Q := Q2 } = _
  rw [hQ]
theorem helpD_rest (s : DS) (ms : List MM) (peers : List Int) (draw node : Int) : ∃ Q, (helpD s ms peers draw node).1 = { s with Q := Q } := helpStep_rest node _ (s, ms)
theorem help_fold : ∀ (l : List Int) (y : DS × List MM), y.1.left = false → l.foldl (helpStep y.1.asked) y = l.foldl (fun y p => ((sendD y.1 3 p y.1.seq 0 y.1.asked).1, y.2 ++ [(sendD y.1 3 p y.1.seq 0 y.1.asked).2])) y
 | [], _, _ => rfl
 | p :: l, y, hl => by
  rw [List.foldl_cons, List.foldl_cons]
  have h1 : helpStep y.1.asked y p = ((sendD y.1 3 p y.1.seq 0 y.1.asked).1, y.2 ++ [(sendD y.1 3 p y.1.seq 0 y.1.asked).2]) := by unfold helpStep; rw [postD_out hl]
  rw [h1]
  exact help_fold l ((sendD y.1 3 p y.1.seq 0 y.1.asked).1, y.2 ++ [(sendD y.1 3 p y.1.seq 0 y.1.asked).2]) hl
theorem dueD_one {x : DS × List MM} {peers : List Int} {draw : Int} (hl : x.1.left = false) : dueD peers draw x 1 = helpD x.1 x.2 peers draw x.1.asked := by
 unfold dueD
 rw [if_neg (by decide), if_pos rfl]
 exact (help_fold _ x hl).symm
theorem dueD_two {x : DS × List MM} {peers : List Int} {draw : Int} : dueD peers draw x 2 = ({ worsenD x.1 x.1.asked 1 2 with asked := -1 }, x.2) := by
 unfold dueD
 rw [if_neg (by decide), if_neg (by decide), if_pos rfl]
 rfl
theorem dueD_else {x : DS × List MM} {peers : List Int} {draw id : Int} (h1 : id ≠ 1) (h2 : id ≠ 2) : dueD peers draw x id = (worsenD x.1 (id - 100) 2 3, x.2) := by
 unfold dueD
 by_cases h : 100 ≤ id
 ·rw [if_pos h]
  unfold worsenD
  split <;> rfl
 ·rw [if_neg h, if_neg h1, if_neg h2]
  have : ofV x.1.V (id - 100) = Cl.zero := by unfold ofV; rw [if_neg (by omega)]
  unfold worsenD
  rw [this, if_neg (by decide)]
theorem dueD_len (peers : List Int) (draw : Int) (x : DS × List MM) (id : Int) (hl : x.1.left = false) : (dueD peers draw x id).2.length ≤ x.2.length + 2 := by
 by_cases h1 : id = 1
 ·subst h1
  rw [dueD_one hl]
  have h2 := helpL_len x.1 peers draw x.1.asked
  have := help_len x.1.asked (helpL x.1 peers draw x.1.asked) (x.1, x.2)
  exact Nat.le_trans this (by dsimp only; omega)
 ·by_cases h2 : id = 2
  ·subst h2
   rw [dueD_two]
   dsimp only
   omega
  ·rw [dueD_else h1 h2]
   dsimp only
   omega
theorem lok_worse {s : DS} (h : LOk s) (node was now : Int) : LOk (worsenD s node was now) := by
 unfold worsenD
 split
 ·exact lok_hear h _
 ·exact h
theorem lok_due {x : DS × List MM} (h : LOk x.1) (hl : x.1.left = false) (peers : List Int) (draw id : Int) : LOk (dueD peers draw x id).1 := by
 by_cases h1 : id = 1
 ·subst h1
  rw [dueD_one hl]
  obtain ⟨Q, hQ⟩ := helpD_rest x.1 x.2 peers draw x.1.asked
  rw [hQ]
  exact ⟨h.self, h.inc, h.now, h.seq, h.asked⟩
 ·by_cases h2 : id = 2
  ·subst h2
   rw [dueD_two]
   have := lok_worse h x.1.asked 1 2
   exact ⟨this.self, this.inc, this.now, this.seq, by dsimp only; omega⟩
  ·rw [dueD_else h1 h2]
   exact lok_worse h _ _ _
def dueK (peers : List Int) (draw : Int) (ids : List Int) (s0 : DS) (k : Nat) : DS × List MM := (ids.take k).foldl (dueD peers draw) (s0, [])
theorem dueK_zero (peers : List Int) (draw : Int) (ids : List Int) (s0 : DS) : dueK peers draw ids s0 0 = (s0, []) := by simp [dueK]
theorem dueK_succ {peers : List Int} {draw : Int} {ids : List Int} {s0 : DS} {k : Nat} {y : Int} (h : ids[k]? = some y) : dueK peers draw ids s0 (k + 1) = dueD peers draw (dueK peers draw ids s0 k) y := by
 unfold dueK
 rw [List.take_add_one, h, Option.toList_some, List.foldl_append]
 rfl
theorem dueK_up (peers : List Int) (draw : Int) (ids : List Int) (s0 : DS) (k : Nat) : Up s0 (dueK peers draw ids s0 k).1 := up_fold (dueD peers draw) (fun y p => up_dueD peers draw y p) (ids.take k) (s0, [])
theorem tickD_go {s : DS} (peers : List Int) (draw : Int) (ids : List Int) (hl : s.left = false) (hids : (dueM s.C (s.now + 1)).map Mo.n = ids) {k : Nat} (hk : ids.length ≤ k) : tickD s peers draw = askD peers draw (dueK peers draw ids { s with now := s.now + 1, C := restM s.C (s.now + 1) } k) := by
 subst hids
 unfold tickD dueK
 rw [if_neg (by rw [hl]; decide), List.take_of_length_le hk, List.foldl_map]
theorem id_cases (x : Int) : x = 1 ∨ x = 2 ∨ (x ≠ 1 ∧ x ≠ 2) := by omega
theorem due_in {C : List Mo} (h : FineM C) (now : Int) {x : Int} (hx : x ∈ (dueM C now).map Mo.n) : 0 ≤ x ∧ x ≤ 999 := by
 obtain ⟨m, hm, rfl⟩ := List.mem_map.1 hx
 have := (h.due now).ok m hm
 simp only [okM, decide_eq_true_eq] at this
 exact this.1
set_option maxHeartbeats 4000000 in
set_option maxRecDepth 100000 in
theorem tick_left (d : Nat) (s : DS) (pv pq po pc : Nat) (vp : Value) (draw : Int) (R : At) (peers : List Int) (hR : ∀ W H, R.p W H → RowAt elemI W vp peers) (hpl : peers.length ≤ 1000) (hs : LOk s) (hnow : s.now < 100000) (h0 : 0 ≤ draw) (h1 : draw < 18446744073709551616) (hl : s.left = true) : DoesU Tryz.prog 15 #[.pointer (some ⟨d, 0, none⟩), vp, .int .u64 draw] (R :: LP d s pv pq po pc) (fun u => msgsT u (tickD s peers draw).2 :: R :: LP d (tickD s peers draw).1 pv pq po pc) := by
 intro w H hp
 have HM0 := Lib.hid (mem_refl hp)
 clear hp
 have HL : Hid (tickD s peers draw = ({ s with now := s.now + 1 }, [])) := Lib.hid (tickD_left peers draw hl)
 have hn := hs.now
 have hle := hn.1
 go_enter Tryz.func15, Tryz.ntmps15
 refine wp_seq ?_
 refine wp_region_N [(0, 1)] (by kernel_rfl) ?_
 refine wS1 [0] ?_
 repeat (go_big_quiet_step (fail))
 refine wpQuiet_nil ?_
 refine wpS_nil ?_
 refine then_normal ?_
 refine wp_seq ?_
 refine wp_seq ?_
 refine wp_region_N [(0, 1), (1, 1)] (by kernel_rfl) ?_
 refine wS1 [0, 1] ?_
 repeat (go_big_quiet_step (fail))
 refine wpQuiet_nil ?_
 refine wpS_nil ?_
 refine then_normal ?_
 refine wp_cond_false rfl ?_
 refine wp_skip ?_
 refine then_normal ?_
 refine wp_seq ?_
 refine wp_region_N [(0, 1), (1, 1), (2, 1), (3, 1), (4, 1), (5, 1), (6, 1), (7, 3)] (by kernel_rfl) ?_
 have Cd := Mem.cell HM0.out 1 rfl
 refine wS1 [0, 1, 2, 3, 4, 5, 6] ?_
 repeat (go_big_quiet_step (fail))
 refine wpQuiet_nil ?_
 clear Cd
 refine wpS_store1 (i := 7) (v := .int _ _) (L2 := [_, _, _, _, _]) (cs' := [_, _, _, _, _, _, _, _, _, _, _]) rfl (by rfl) rfl rfl rfl rfl (by kernel_rfl) rfl HM0.out 1 rfl rfl rfl rfl covS_nil rfl ?_
 rintro W2 hm1 -
 have HM3 := Lib.hid hm1
 clear hm1
 refine wpS_nil ?_
 refine then_normal ?_
 refine wp_seq ?_
 refine wp_seq ?_
 refine wp_region_N [(0, 1), (1, 1), (2, 1), (3, 1)] (by kernel_rfl) ?_
 have Cd := Mem.cell HM3.out 0 rfl
 refine wS1 [0, 1, 2, 3] ?_
 repeat (go_big_quiet_step (fail))
 refine wpQuiet_nil ?_
 clear Cd
 refine wpS_nil ?_
 refine then_normal ?_
 refine wp_cond_true rfl ?_
 refine wp_seq ?_
 refine wp_region_N [(0, 1)] (by kernel_rfl) ?_
 refine wS1 [0] ?_
 repeat (go_big_quiet_step (fail))
 refine wpQuiet_nil ?_
 refine wpS_nil ?_
 refine then_normal ?_
 refine wp_ret ?_
 refine then_ret ?_
 refine bodyPost_ret (results_tmp rfl _ _ _) rfl ?_
 rw [HL.out]
 exact doesU_ret (post := fun u => msgsT u [] :: R :: LP d { s with now := s.now + 1 } pv pq po pc) (msgs_nil (Mem.only (M := [_, _, _, _, _, _]) HM3.out [1, 0, 0, 0, 0, 0] rfl)) rfl
set_option maxHeartbeats 4000000 in
set_option maxRecDepth 100000 in
theorem tick_work (d : Nat) (s : DS) (pv pq po pc : Nat) (vp : Value) (draw : Int) (R : At) (peers : List Int) (hR : ∀ W H, R.p W H → RowAt elemI W vp peers) (hpl : peers.length ≤ 1000) (hs : LOk s) (hnow : s.now < 100000) (h0 : 0 ≤ draw) (h1 : draw < 18446744073709551616) (hl : s.left = false) : DoesU Tryz.prog 15 #[.pointer (some ⟨d, 0, none⟩), vp, .int .u64 draw] (R :: LP d s pv pq po pc) (fun u => msgsT u (tickD s peers draw).2 :: R :: LP d (tickD s peers draw).1 pv pq po pc) := by
 intro w H hp
 have HM0 := Lib.hid (mem_refl hp)
 clear hp
 obtain ⟨pp, pcap, rfl, -⟩ := (HM0.out.row 0 rfl hR).form
 have hfin := clk_fine HM0.out 5 rfl
 obtain ⟨ids, hids'⟩ : ∃ l, (dueM s.C (s.now + 1)).map Mo.n = l := ⟨_, rfl⟩
 have hidsl : ids.length ≤ 1000 := by rw [← hids', List.length_map]; exact (hfin.due _).len
 have hidsr : Hid (∀ x ∈ ids, 0 ≤ x ∧ x ≤ 999) := Lib.hid (by rw [← hids']; exact fun x hx => due_in hfin _ hx)
 have hids := Lib.hid hids'
 clear hids' hfin
 have hn := hs.now
 have hle := hn.1
 go_enter Tryz.func15, Tryz.ntmps15
 refine wp_seq ?_
 refine wp_region_N [(0, 1)] (by kernel_rfl) ?_
 refine wS1 [0] ?_
 repeat (go_big_quiet_step (fail))
 refine wpQuiet_nil ?_
 refine wpS_nil ?_
 refine then_normal ?_
 refine wp_seq ?_
 refine wp_seq ?_
 refine wp_region_N [(0, 1), (1, 1)] (by kernel_rfl) ?_
 refine wS1 [0, 1] ?_
 repeat (go_big_quiet_step (fail))
 refine wpQuiet_nil ?_
 refine wpS_nil ?_
 refine then_normal ?_
 refine wp_cond_false rfl ?_
 refine wp_skip ?_
 refine then_normal ?_
 refine wp_seq ?_
 refine wp_region_N [(0, 1), (1, 1), (2, 1), (3, 1), (4, 1), (5, 1), (6, 1), (7, 3)] (by kernel_rfl) ?_
 have Cd := Mem.cell HM0.out 1 rfl
 refine wS1 [0, 1, 2, 3, 4, 5, 6] ?_
 repeat (go_big_quiet_step (fail))
 refine wpQuiet_nil ?_
 clear Cd
 refine wpS_store1 (i := 7) (v := .int _ _) (L2 := [_, _, _, _, _]) (cs' := [_, _, _, _, _, _, _, _, _, _, _]) rfl (by rfl) rfl rfl rfl rfl (by kernel_rfl) rfl HM0.out 1 rfl rfl rfl rfl covS_nil rfl ?_
 rintro W2 hm1 -
 have HM3 := Lib.hid hm1
 clear hm1
 refine wpS_nil ?_
 refine then_normal ?_
 refine wp_seq ?_
 refine wp_seq ?_
 refine wp_region_N [(0, 1), (1, 1), (2, 1), (3, 1)] (by kernel_rfl) ?_
 have Cd := Mem.cell HM3.out 0 rfl
 refine wS1 [0, 1, 2, 3] ?_
 repeat (go_big_quiet_step (fail))
 refine wpQuiet_nil ?_
 clear Cd
 refine wpS_nil ?_
 refine then_normal ?_
 refine wp_cond_false rfl ?_
 refine wp_skip ?_
 refine then_normal ?_
 refine wp_seq ?_
 refine wp_region_N [(0, 1), (1, 1), (2, 1), (3, 1), (4, 3), (5, 1)] (by kernel_rfl) ?_
 refine wS1 [0, 1, 2, 3] ?_
 repeat (go_big_quiet_step (fail))
 refine wpQuiet_nil ?_
 refine wpS_boxA (i := 4) (dd := 29) rfl (by rfl) rfl rfl HM3.out covS_nil rfl ?_
 rintro b6 W5 hm4 -
 have HM7 := Lib.hid hm4
 clear hm4
 simp only [Act.put, pA, pB, pC]
 refine wS1 [5] ?_
 repeat (go_big_quiet_step (fail))
 refine wpQuiet_nil ?_
 refine wpS_nil ?_
 refine then_normal ?_
 refine wp_seq ?_
 refine wp_seq ?_
 have hmt := msgs_nil HM7.out
 have HM8 := Lib.hid hmt
 clear hmt
 refine wp_region_M (fun k => k ∈ ([] : List Nat)) [(0, 1), (1, 1), (2, 1), (3, 1), (4, 1), (5, 1), (6, 1), (7, 1), (10, 0), (8, 3), (9, 1)] (by kernel_rfl) (by kernel_rfl) HM8.out ?_
 intro W9 hm10
 have HM11 := Lib.hid hm10
 clear hm10
 have Cd := Mem.cell HM11.out 2 rfl
 refine wS1 [0, 1, 2, 3, 4, 5, 6, 7] ?_
 repeat (go_big_quiet_step (fail))
 refine wpQuiet_nil ?_
 clear Cd
 refine wS0 [10] ?_
 repeat (go_big_quiet_step (fail))
 refine wpQuiet_nil ?_
 refine wpS_doesU2 (i := 8) (d := some 38) (rem := [_, _, _, _, _, _, _]) rfl (by rfl) rfl Tryz.call50 (by have := clk_due pc s.C (s.now + 1); rw [hids.out] at this; exact this) rfl rfl HM11.out [7] rfl covS_nil (fun _ => rfl) rfl ?_
 rintro u14 W13 hm12 -
 obtain ⟨dp, dc, rfl⟩ := row_form (Mem.src hm12 0 rfl rowT_reads)
 have HM15 := Lib.hid hm12
 clear hm12
 simp only [Act.put, pA, pB, pC]
 refine wS1 [9] ?_
 repeat (go_big_quiet_step (fail))
 refine wpQuiet_nil ?_
 refine wpS_nil ?_
 refine then_normal ?_
 refine wp_block ?_
 refine wp_loop_F [9, 10, 11, 40, 41, 42, 43, 44, 45, 46, 47, 48, 49, 50, 51, 52, 53] (fun n vz W' => ∃ (k : Nat) (vs' : Value), n = ids.length - k ∧ vz 40 = .int .i64 (k : Int) ∧ k ≤ ids.length ∧ LOk (dueK peers draw ids { s with now := s.now + 1, C := restM s.C (s.now + 1) } k).1 ∧ (dueK peers draw ids { s with now := s.now + 1, C := restM s.C (s.now + 1) } k).2.length ≤ 2 * k ∧ Mem ([rowT elemI (.slice dp ids.length dc) ids, turnT b6 d (.slice pp peers.length pcap) draw vs', msgsT vs' (dueK peers draw ids { s with now := s.now + 1, C := restM s.C (s.now + 1) } k).2] ++ LP d (dueK peers draw ids { s with now := s.now + 1, C := restM s.C (s.now + 1) } k).1 pv pq po pc ++ [R]) H w W') (n0 := ids.length) ?_ ?_
 ·refine ⟨0, .slice none 0 0, rfl, rfl, Nat.zero_le _, ?_, ?_, ?_⟩
  ·rw [dueK_zero]
   exact ⟨hs.self, hs.inc, by dsimp only; omega, hs.seq, hs.asked⟩
  ·rw [dueK_zero]
   exact Nat.zero_le _
  ·rw [dueK_zero]
   exact (Mem.only (M := [_, _, _, _, _, _, _, _, _]) HM15.out [0, 2, 1, 1, 2, 2, 2, 0, 0] rfl)
 rintro n vz W' ⟨k, vs', rfl, e40, hk, hok, hlen0, hm⟩
 simp only [putAll, List.map_cons, List.map_nil, Act.put, List.setIfInBounds_toArray, List.set_cons_succ, List.set_cons_zero]
 rw [e40]
 clear e40
 have hup := dueK_up peers draw ids { s with now := s.now + 1, C := restM s.C (s.now + 1) } k
 obtain ⟨x, hx'⟩ : ∃ x, (dueK peers draw ids { s with now := s.now + 1, C := restM s.C (s.now + 1) } k) = x := ⟨_, rfl⟩
 rw [hx'] at hok hlen0 hm hup
 have hx := Lib.hid hx'
 have hxok := Lib.hid hok
 have hxl : Hid (x.1.left = false) := Lib.hid (hup.left.trans hl)
 have hxn := Lib.hid hlen0
 have hidl := hidsl
 clear hx' hok hlen0 hup
 have HM16 := Lib.hid hm
 clear hm
 refine wp_seq ?_
 refine wp_region_N [(0, 1)] (by kernel_rfl) ?_
 refine wS1 [0] ?_
 repeat (go_big_quiet_step (fail))
 refine wpQuiet_nil ?_
 refine wpS_nil ?_
 refine then_normal ?_
 refine wp_seq ?_
 refine wp_cond_split rfl (fun h17 => ?_) (fun h17 => ?_)
 ·have hk1 : k + 1 ≤ ids.length := by have : (k : Int) < (ids.length : Int) := (by simpa using h17); omega
  clear h17
  obtain ⟨id, hy⟩ : ∃ y, ids[k]? = some y := ⟨_, List.getElem?_eq_getElem hk1⟩
  have hid := Lib.hid (hidsr.out id (List.mem_of_getElem? hy))
  refine wp_skip ?_
  refine then_normal ?_
  refine wp_seq ?_
  refine wp_block ?_
  refine wp_seq ?_
  refine wp_region_N [(0, 1), (1, 1), (2, 1)] (by kernel_rfl) ?_
  refine wpS_index (E := elemI) (i := 0) (d := some 42) rfl (by rfl) rfl rfl rfl (rowAt_src (HM16.out.src 0 rfl rowT_reads)) (hy) rfl ?_
  intro eb18 eo19 hc20
  simp only [Act.put, pA, pB, pC]
  refine wpS_load1 (i := 1) (d := some 43) (u := .int .i64 id) rfl (by rfl) rfl rfl (hc20 0 _ rfl) Tryz.underlying3 rfl rfl ?_
  simp only [Act.put, pA, pB, pC]
  refine wS1 [2] ?_
  repeat (go_big_quiet_step (fail))
  refine wpQuiet_nil ?_
  refine wpS_nil ?_
  refine then_normal ?_
  refine wp_seq ?_
  rcases id_cases id with rfl | rfl | ⟨e1, e2⟩
  ·have HS := Lib.hid (dueD_one (peers := peers) (draw := draw) hxl.out)
   obtain ⟨Q', hQ⟩ := helpD_rest x.1 x.2 peers draw x.1.asked
   refine wp_region_N [(0, 1), (1, 1), (2, 3), (3, 1), (4, 1), (5, 1), (6, 1), (7, 1)] (by kernel_rfl) ?_
   refine wS1 [0, 1] ?_
   repeat (go_big_quiet_step (fail))
   refine wpQuiet_nil ?_
   refine wpS_does2 (i := 2) (d := some 47) (rem := [_, _, _, _, _, _, _]) (out := [_, _, _, _, _, _, _, _, _]) rfl (by rfl) rfl Tryz.call51 (whenDue_one b6 d x.1 pv pq po pc (.slice pp peers.length pcap) draw vs' 1 rfl) rfl rfl HM16.out [1, 2] rfl covS_nil rfl rfl ?_
   rintro W22 hm21 -
   have HM23 := Lib.hid hm21
   clear hm21
   simp only [Act.put, pA, pB, pC]
   refine wS1 [3, 4, 5, 6, 7] ?_
   repeat (go_big_quiet_step (fail))
   refine wpQuiet_nil ?_
   refine wpS_nil ?_
   refine then_normal ?_
   refine wp_region_N [(0, 1), (1, 1), (2, 3)] (by kernel_rfl) ?_
   refine wS1 [0, 1] ?_
   repeat (go_big_quiet_step (fail))
   refine wpQuiet_nil ?_
   refine wpS_doesV1 (i := 2) (d := some 52) (rem := [_, _, _]) (out := [_, _, _, _, _]) rfl (by rfl) rfl rfl Tryz.call75 (askHelpers_d b6 d x.1 pv pq po pc (.slice pp peers.length pcap) draw vs' R peers hR hpl x.2 (by have := hxn.out; omega) x.1.asked h0 h1) rfl rfl HM23.out [0, 2, 0, 1, 1, 3] rfl covS_nil rfl rfl ?_
   rintro W25 hm24 -
   obtain ⟨vs2, hm24⟩ := Mem.ex hm24
   rw [hQ] at hm24
   have HM26 := Lib.hid hm24
   clear hm24
   simp only [Act.put, pA, pB, pC]
   refine wpS_nil ?_
   refine block_normal ?_
   refine then_normal ?_
   refine wp_region_N [(0, 1), (1, 1)] (by kernel_rfl) ?_
   refine wS1 [0, 1] ?_
   repeat (go_big_quiet_step (fail))
   refine wpQuiet_nil ?_
   refine wpS_nil ?_
   refine then_normal ?_
   refine ⟨by kernel_rfl, ?_⟩
   have hst := dueK_succ (peers := peers) (draw := draw) (s0 := { s with now := s.now + 1, C := restM s.C (s.now + 1) }) hy
   rw [hx.out] at hst
   have hlen := dueD_len peers draw x 1 hxl.out
   have hlok := lok_due hxok.out hxl.out peers draw 1
   have hln := hxn.out
   rw [← hst] at hlen hlok
   rw [HS.out] at hst
   refine ⟨ids.length - (k + 1), by omega, k + 1, vs2, rfl, rfl, hk1, hlok, by omega, ?_⟩
   rw [hst, hQ]
   exact (Mem.only (M := [_, _, _, _, _, _, _, _, _]) HM26.out [6, 0, 0, 0, 0, 0, 1, 1, 0] rfl)
  ·have HS := Lib.hid (dueD_two (x := x) (peers := peers) (draw := draw))
   refine wp_region_N [(0, 1), (1, 1), (2, 3), (3, 1), (4, 1), (5, 1), (6, 1), (7, 1)] (by kernel_rfl) ?_
   refine wS1 [0, 1] ?_
   repeat (go_big_quiet_step (fail))
   refine wpQuiet_nil ?_
   refine wpS_does2 (i := 2) (d := some 47) (rem := [_, _, _, _, _, _, _]) (out := [_, _, _, _, _, _, _, _, _]) rfl (by rfl) rfl Tryz.call51 (whenDue_two b6 d x.1 pv pq po pc (.slice pp peers.length pcap) draw vs' 2 rfl) rfl rfl HM16.out [1, 2] rfl covS_nil rfl rfl ?_
   rintro W28 hm27 -
   have HM29 := Lib.hid hm27
   clear hm27
   simp only [Act.put, pA, pB, pC]
   refine wS1 [3, 4, 5, 6, 7] ?_
   repeat (go_big_quiet_step (fail))
   refine wpQuiet_nil ?_
   refine wpS_nil ?_
   refine then_normal ?_
   refine wp_region_N [(0, 1), (1, 1), (2, 3)] (by kernel_rfl) ?_
   refine wS1 [0, 1] ?_
   repeat (go_big_quiet_step (fail))
   refine wpQuiet_nil ?_
   refine wpS_doesV1 (i := 2) (d := some 52) (rem := [_, _, _, _]) (out := [_, _, _, _, _, _, _, _, _]) rfl (by rfl) rfl rfl Tryz.call76 (doubt_d d x.1 pv pq po pc x.1.asked hxok.out) rfl rfl HM29.out [1, 3, 3, 3, 3] rfl covS_nil rfl rfl ?_
   rintro W31 hm30 -
   have HM32 := Lib.hid hm30
   clear hm30
   simp only [Act.put, pA, pB, pC]
   refine wpS_nil ?_
   refine block_normal ?_
   refine then_normal ?_
   refine wp_region_N [(0, 1), (1, 1)] (by kernel_rfl) ?_
   refine wS1 [0, 1] ?_
   repeat (go_big_quiet_step (fail))
   refine wpQuiet_nil ?_
   refine wpS_nil ?_
   refine then_normal ?_
   refine ⟨by kernel_rfl, ?_⟩
   have hst := dueK_succ (peers := peers) (draw := draw) (s0 := { s with now := s.now + 1, C := restM s.C (s.now + 1) }) hy
   rw [hx.out] at hst
   have hlen := dueD_len peers draw x 2 hxl.out
   have hlok := lok_due hxok.out hxl.out peers draw 2
   have hln := hxn.out
   rw [← hst] at hlen hlok
   rw [HS.out] at hst
   refine ⟨ids.length - (k + 1), by omega, k + 1, vs', rfl, rfl, hk1, hlok, by omega, ?_⟩
   rw [hst]
   exact (Mem.only (M := [_, _, _, _, _, _, _, _, _]) HM32.out [6, 5, 5, 0, 0, 0, 0, 0, 0] rfl)
  ·have HS := Lib.hid (dueD_else (x := x) (peers := peers) (draw := draw) e1 e2)
   refine wp_region_N [(0, 1), (1, 1), (2, 3), (3, 1), (4, 1), (5, 1), (6, 1), (7, 1)] (by kernel_rfl) ?_
   refine wS1 [0, 1] ?_
   repeat (go_big_quiet_step (fail))
   refine wpQuiet_nil ?_
   refine wpS_does2 (i := 2) (d := some 47) (rem := [_, _, _, _, _, _, _]) (out := [_, _, _, _, _, _, _, _, _]) rfl (by rfl) rfl Tryz.call51 (whenDue_else b6 d x.1 pv pq po pc (.slice pp peers.length pcap) draw vs' id e1 e2 hid.out) rfl rfl HM16.out [1, 2] rfl covS_nil rfl rfl ?_
   rintro W34 hm33 -
   have HM35 := Lib.hid hm33
   clear hm33
   simp only [Act.put, pA, pB, pC]
   refine wS1 [3, 4, 5, 6, 7] ?_
   repeat (go_big_quiet_step (fail))
   refine wpQuiet_nil ?_
   refine wpS_nil ?_
   refine then_normal ?_
   refine wp_region_N [(0, 1), (1, 1), (2, 3)] (by kernel_rfl) ?_
   refine wS1 [0, 1] ?_
   repeat (go_big_quiet_step (fail))
   refine wpQuiet_nil ?_
   refine wpS_doesV1 (i := 2) (d := some 52) (rem := [_, _, _, _]) (out := [_, _, _, _, _, _, _, _, _]) rfl (by rfl) rfl rfl Tryz.call77 (bury_d d x.1 pv pq po pc (id - 100) hxok.out) rfl rfl HM35.out [1, 3, 3, 3, 3] rfl covS_nil rfl rfl ?_
   rintro W37 hm36 -
   have HM38 := Lib.hid hm36
   clear hm36
   simp only [Act.put, pA, pB, pC]
   refine wpS_nil ?_
   refine block_normal ?_
   refine then_normal ?_
   refine wp_region_N [(0, 1), (1, 1)] (by kernel_rfl) ?_
   refine wS1 [0, 1] ?_
   repeat (go_big_quiet_step (fail))
   refine wpQuiet_nil ?_
   refine wpS_nil ?_
   refine then_normal ?_
   refine ⟨by kernel_rfl, ?_⟩
   have hst := dueK_succ (peers := peers) (draw := draw) (s0 := { s with now := s.now + 1, C := restM s.C (s.now + 1) }) hy
   rw [hx.out] at hst
   have hlen := dueD_len peers draw x id hxl.out
   have hlok := lok_due hxok.out hxl.out peers draw id
   have hln := hxn.out
   rw [← hst] at hlen hlok
   rw [HS.out] at hst
   refine ⟨ids.length - (k + 1), by omega, k + 1, vs', rfl, rfl, hk1, hlok, by omega, ?_⟩
   rw [hst]
   exact (Mem.only (M := [_, _, _, _, _, _, _, _, _]) HM38.out [6, 5, 5, 0, 0, 0, 0, 0, 0] rfl)
 ·have hge : Hid (ids.length ≤ k) := Lib.hid (by have : ¬ (k : Int) < (ids.length : Int) := (by simpa using h17); omega)
  clear h17
  refine wp_exit ?_
  refine then_exit (then_exit (block_exit ?_))
  refine then_normal ?_
  refine wp_seq ?_
  refine wp_seq ?_
  refine wp_region_N [(0, 1), (1, 1), (2, 1), (3, 1), (4, 1)] (by kernel_rfl) ?_
  have Cd := Mem.cell HM16.out 3 rfl
  refine wS1 [0, 1, 2, 3, 4] ?_
  repeat (go_big_quiet_step (fail))
  refine wpQuiet_nil ?_
  clear Cd
  refine wpS_nil ?_
  refine then_normal ?_
  refine wp_cond_split rfl (fun h39 => ?_) (fun h39 => ?_)
  ·have h13 := Lib.hid h39
   clear h39
   refine wp_region_N [(0, 1), (1, 3)] (by kernel_rfl) ?_
   refine wS1 [0] ?_
   repeat (go_big_quiet_step (fail))
   refine wpQuiet_nil ?_
   refine wpS_does1 (i := 1) (d := some 60) (rem := [_]) (out := [_, _, _]) rfl (by rfl) rfl Tryz.call52 (askNext_d b6 d x.1 pv pq po pc (.slice pp peers.length pcap) draw vs' R peers hR hpl x.2 (by have := hxn.out; omega) hxok.out h0 h1) rfl HM16.out [1, 1, 1, 1, 1, 1, 1, 1] rfl covS_nil rfl rfl ?_
   rintro W41 hm40 -
   obtain ⟨vs3, hm40⟩ := Mem.ex hm40
   have HM42 := Lib.hid hm40
   clear hm40
   simp only [Act.put, pA, pB, pC]
   refine wpS_nil ?_
   refine then_normal ?_
   refine wp_seq ?_
   refine wp_region_N [(0, 1), (1, 1), (2, 1), (3, 1), (4, 1)] (by kernel_rfl) ?_
   have Ct := Mem.cell HM42.out 0 rfl
   refine wS1 [0, 1, 2, 3, 4] ?_
   repeat (go_big_quiet_step (fail))
   refine wpQuiet_nil ?_
   clear Ct
   refine wpS_nil ?_
   refine then_normal ?_
   refine wp_ret ?_
   refine bodyPost_ret (results_tmp rfl _ _ _) rfl ?_
   have hgo := tickD_go peers draw ids hl hids.out (k := k) hge.out
   rw [hx.out] at hgo
   have ha : x.1.asked = -1 := by simpa using h13.out
   rw [show x = (x.1, x.2) from rfl, askD_next hxl.out ha] at hgo
   rw [hgo]
   exact doesU_ret (post := fun u => msgsT u (nextD x.1 x.2 peers draw).2 :: R :: LP d (nextD x.1 x.2 peers draw).1 pv pq po pc) (Mem.only (M := [_, _, _, _, _, _, _]) HM42.out [1, 6, 1, 1, 1, 1, 1] rfl) rfl
  ·have h13 := Lib.hid h39
   clear h39
   refine wp_skip ?_
   refine then_normal ?_
   refine wp_seq ?_
   refine wp_region_N [(0, 1), (1, 1), (2, 1), (3, 1), (4, 1)] (by kernel_rfl) ?_
   have Ct := Mem.cell HM16.out 1 rfl
   refine wS1 [0, 1, 2, 3, 4] ?_
   repeat (go_big_quiet_step (fail))
   refine wpQuiet_nil ?_
   clear Ct
   refine wpS_nil ?_
   refine then_normal ?_
   refine wp_ret ?_
   refine bodyPost_ret (results_tmp rfl _ _ _) rfl ?_
   have hgo := tickD_go peers draw ids hl hids.out (k := k) hge.out
   rw [hx.out] at hgo
   have ha : ¬ x.1.asked = -1 := by simpa using h13.out
   have hr := hxok.out.asked
   have hk' : askD peers draw x = x := by unfold askD; rw [if_pos (by omega)]
   rw [hk'] at hgo
   rw [hgo]
   exact doesU_ret (post := fun u => msgsT u x.2 :: R :: LP d x.1 pv pq po pc) (Mem.only (M := [_, _, _, _, _, _, _]) HM16.out [2, 7, 2, 2, 2, 2, 2] rfl) rfl
theorem tick_d (d : Nat) (s : DS) (pv pq po pc : Nat) (vp : Value) (draw : Int) (R : At) (peers : List Int) (hR : ∀ W H, R.p W H → RowAt elemI W vp peers) (hpl : peers.length ≤ 1000) (hs : LOk s) (hnow : s.now < 100000) (h0 : 0 ≤ draw) (h1 : draw < 18446744073709551616) : DoesU Tryz.prog 15 #[.pointer (some ⟨d, 0, none⟩), vp, .int .u64 draw] (R :: LP d s pv pq po pc) (fun u => msgsT u (tickD s peers draw).2 :: R :: LP d (tickD s peers draw).1 pv pq po pc) := by
 cases hl : s.left with
 | true => exact tick_left d s pv pq po pc vp draw R peers hR hpl hs hnow h0 h1 hl
 | false => exact tick_work d s pv pq po pc vp draw R peers hR hpl hs hnow h0 h1 hl
end Go.Proofs.YtjbihgfdgaiecaaGreat

/- The landed detector: New, and what is told of it. -/
namespace Go.Proofs.YtjbihgfdgaiecaaGreat
open Go Go.RowKit Go.BigFrame
theorem DoesU.of_new {pr : Program} {f : FuncId} {args : Array Value} {A : Nat → At} (h : ∀ w, Calls pr f args w fun e w' => e = .returned (.pointer (some ⟨w.heap.size, 0, none⟩)) ∧ (A w.heap.size).p w' (fun j => j = w.heap.size) ∧ Below w.heap.size w w') : DoesU pr f args [] fun u => [exT fun b => [prT (u = .pointer (some ⟨b, 0, none⟩)), A b]] := fun W H hs => (h W).mono fun e W' ⟨he, ha, hb⟩ => by
 refine ⟨_, he, ?_⟩
 have h0 : Mem [] H W W := mem_refl hs
 have h1 : Mem [A W.heap.size] H W W' := SEnd.fresh emp_owns (A W.heap.size).owns h0 hb ha fun k hk => by omega
 exact Mem.addEx (f := fun b => [prT (Value.pointer (some ⟨W.heap.size, 0, none⟩) = Value.pointer (some ⟨b, 0, none⟩)), A b]) W.heap.size (Mem.addPr rfl h1)
theorem heap_nil {α : Type} {less : α → α → Bool} : IsHeap less ([] : List α).length [] := by
 unfold IsHeap Holds
 simp
theorem view_new : DoesU Tryz.prog 26 #[] [] fun u => [exT fun b => [prT (u = .pointer (some ⟨b, 0, none⟩)), viewT b view0]] := DoesU.of_new fun w => (new_any w).mono fun e w' ⟨he, hw⟩ => by
 subst hw
 exact ⟨he, ⟨⟨⟨emptyV, heap_alloc_new _ _, like_zero⟩, vwOk_zero⟩, fun _ => Iff.rfl⟩, ext_alloc (ext_refl w) _⟩
theorem que_new : DoesU Tryz.prog 27 #[.int .i64 3] [] fun u => [exT fun b => [prT (u = .pointer (some ⟨b, 0, none⟩)), queT b []]] := DoesU.of_new fun w => (newR_any 3 w 3 (by decide)).mono fun e w' ⟨he, h1, h2⟩ => ⟨he, ⟨[], h1, heap_nil, List.Perm.refl _, FineQ.nil⟩, h2⟩
theorem ord_new (self : Int) : DoesU Tryz.prog 28 #[.int .i64 self] [] fun u => [exT fun b => [prT (u = .pointer (some ⟨b, 0, none⟩)), ordT b self []]] := DoesU.of_new fun w => (newP_any self w).mono fun e w' ⟨he, h1, h2⟩ => ⟨he, ⟨by simp, h1⟩, h2⟩
theorem clk_new : DoesU Tryz.prog 29 #[] [] fun u => [exT fun b => [prT (u = .pointer (some ⟨b, 0, none⟩)), clkT b []]] := DoesU.of_new fun w => (newK_any w).mono fun e w' ⟨he, h1, h2⟩ => ⟨he, ⟨FineM.nil, [], h1, List.Perm.refl _, heap_nil⟩, h2⟩
structure Blk where
 d : Nat
 pv : Nat
 pq : Nat
 po : Nat
 pc : Nat
abbrev LB (b : Blk) (s : DS) : List At := LP b.d s b.pv b.pq b.po b.pc
def someT (u : Value) (s : DS) : At := exT fun b : Blk => prT (u = .pointer (some ⟨b.d, 0, none⟩)) :: LB b s
theorem lok_new {self inc : Int} (h1 : 0 ≤ self ∧ self < 8) (h2 : 0 ≤ inc ∧ inc ≤ 1000000) : LOk (newD self inc) := ⟨h1, h2, by simp [newD], by simp [newD], by simp [newD]⟩
set_option maxHeartbeats 4000000 in
set_option maxRecDepth 100000 in
theorem new_d (self inc : Int) (h1 : 0 ≤ self ∧ self < 8) (h2 : 0 ≤ inc ∧ inc ≤ 1000000) : DoesU Tryz.prog 6 #[.int .i64 self, .int .i64 inc] [] (fun u => [someT u (newD self inc)]) := by
 intro w H hp
 have HM0 := Lib.hid (mem_refl hp)
 clear hp
 have hnb : nodeB self = true := by simp [nodeB]; omega
 have HN : Hid (Does Tryz.prog 25 #[.int .i64 self] [] (.bool true) []) := Lib.hid (by have := isNode_d self; rw [hnb] at this; exact this)
 have g1 : decide (inc < 0) = false := decide_eq_false (by omega)
 have g2 : decide (1000000 < inc) = false := decide_eq_false (by omega)
 clear hnb h1 h2
 go_enter Tryz.func6, Tryz.ntmps6
 refine wp_seq ?_
 refine wp_region_N [(0, 1)] (by kernel_rfl) ?_
 refine wS1 [0] ?_
 repeat (go_big_quiet_step (fail))
 refine wpQuiet_nil ?_
 refine wpS_nil ?_
 refine then_normal ?_
 refine wp_seq ?_
 refine wp_seq ?_
 refine wp_region_N [(0, 1), (1, 3), (2, 1), (3, 1), (4, 1), (5, 1), (6, 1), (7, 1), (8, 1), (9, 1), (10, 1)] (by kernel_rfl) ?_
 refine wS1 [0] ?_
 repeat (go_big_quiet_step (fail))
 refine wpQuiet_nil ?_
 refine wpS_does1 (i := 1) (d := some 7) (rem := []) (out := []) rfl (by rfl) rfl Tryz.call25 (HN.out) rfl HM0.out [] rfl covS_nil rfl rfl ?_
 rintro W2 hm1 -
 have HM3 := Lib.hid hm1
 clear hm1
 simp only [Act.put, pA, pB, pC]
 refine wS1 [2, 3, 4, 5, 6, 7, 8, 9, 10] ?_
 repeat (go_big_quiet_step (fail))
 refine wpQuiet_nil ?_
 refine wpS_nil ?_
 refine then_normal ?_
 refine wp_cond_false rfl ?_
 refine wp_skip ?_
 refine then_normal ?_
 refine wp_seq ?_
 refine wp_region_N [(0, 1), (1, 1), (2, 3), (3, 3), (4, 1), (5, 3), (6, 3), (7, 1), (8, 3), (9, 1)] (by kernel_rfl) ?_
 refine wS1 [0, 1] ?_
 repeat (go_big_quiet_step (fail))
 refine wpQuiet_nil ?_
 refine wpS_doesU0 (i := 2) (d := some 19) (rem := []) rfl (by rfl) rfl Tryz.call26 (view_new)  HM3.out [] rfl covS_nil (fun _ => rfl) rfl ?_
 rintro u6 W5 hm4 -
 obtain ⟨pv, hm4e⟩ := Mem.ex hm4
 clear hm4
 obtain ⟨hm4u, hm4⟩ := Mem.pr hm4e
 clear hm4e
 subst hm4u
 have HM7 := Lib.hid hm4
 clear hm4
 simp only [Act.put, pA, pB, pC]
 refine wpS_doesU1 (i := 3) (d := some 20) (rem := [_]) rfl (by rfl) rfl Tryz.call27 (que_new) rfl HM7.out [] rfl covS_nil (fun _ => rfl) rfl ?_
 rintro u10 W9 hm8 -
 obtain ⟨pq, hm8e⟩ := Mem.ex hm8
 clear hm8
 obtain ⟨hm8u, hm8⟩ := Mem.pr hm8e
 clear hm8e
 subst hm8u
 have HM11 := Lib.hid hm8
 clear hm8
 simp only [Act.put, pA, pB, pC]
 refine wS1 [4] ?_
 repeat (go_big_quiet_step (fail))
 refine wpQuiet_nil ?_
 refine wpS_doesU1 (i := 5) (d := some 22) (rem := [_, _]) rfl (by rfl) rfl Tryz.call28 (ord_new self) rfl HM11.out [] rfl covS_nil (fun _ => rfl) rfl ?_
 rintro u14 W13 hm12 -
 obtain ⟨po, hm12e⟩ := Mem.ex hm12
 clear hm12
 obtain ⟨hm12u, hm12⟩ := Mem.pr hm12e
 clear hm12e
 subst hm12u
 have HM15 := Lib.hid hm12
 clear hm12
 simp only [Act.put, pA, pB, pC]
 refine wpS_doesU0 (i := 6) (d := some 23) (rem := [_, _, _]) rfl (by rfl) rfl Tryz.call29 (clk_new)  HM15.out [] rfl covS_nil (fun _ => rfl) rfl ?_
 rintro u18 W17 hm16 -
 obtain ⟨pc, hm16e⟩ := Mem.ex hm16
 clear hm16
 obtain ⟨hm16u, hm16⟩ := Mem.pr hm16e
 clear hm16e
 subst hm16u
 have HM19 := Lib.hid hm16
 clear hm16
 simp only [Act.put, pA, pB, pC]
 refine wS1 [7] ?_
 repeat (go_big_quiet_step (fail))
 refine wpQuiet_nil ?_
 refine wpS_boxA (i := 8) (dd := 25) rfl (by rfl) rfl rfl HM19.out covS_nil rfl ?_
 rintro b22 W21 hm20 -
 have HM23 := Lib.hid hm20
 clear hm20
 simp only [Act.put, pA, pB, pC]
 refine wS1 [9] ?_
 repeat (go_big_quiet_step (fail))
 refine wpQuiet_nil ?_
 refine wpS_nil ?_
 refine then_normal ?_
 refine wp_seq ?_
 refine wp_region_M (fun k => k ∈ ([b22] : List Nat)) [(0, 0), (1, 0), (2, 0), (3, 2), (4, 1), (5, 3), (6, 3)] (by kernel_rfl) (by kernel_rfl) HM23.out ?_
 intro W24 hm25
 have HM26 := Lib.hid hm25
 clear hm25
 refine wS0 [0, 1, 2] ?_
 repeat (go_big_quiet_step (fail))
 refine wpQuiet_nil ?_
 have Cd := Mem.cell HM26.out 0 rfl
 refine wS2 [3] ?_
 repeat (go_big_quiet_step (fail))
 refine wpQuiet_nil ?_
 clear Cd
 refine wS1 [4] ?_
 repeat (go_big_quiet_step (fail))
 refine wpQuiet_nil ?_
 refine wpS_doesB2 (i := 5) (d := some 31) (rem := [_, _, _, _]) (out := [_, _, _, _, _]) rfl (by rfl) rfl Tryz.call31 (selfAs_d b22 { newD self inc with V := view0 } pv pq po pc 1) rfl rfl HM26.out [0] rfl rfl 0 0 rfl rfl rfl ?_
 rintro W28 hm27 hg29
 have HM30 := Lib.hid hm27
 clear hm27
 simp only [Act.put, pA, pB, pC]
 refine wpS_does2 (i := 6) (d := some 32) (rem := [_, _, _, _]) (out := [_, _, _, _, _]) rfl (by rfl) rfl Tryz.call30 (view_hear pv view0 self inc 1) rfl rfl HM30.out [4] rfl (covS_box 0 rfl covS_nil) rfl rfl ?_
 rintro W32 hm31 hg33
 have HM34 := Lib.hid hm31
 clear hm31
 simp only [Act.put, pA, pB, pC]
 refine wpS_nil ?_
 refine then_normal ?_
 refine wp_seq ?_
 refine wp_region_N [(0, 1), (1, 1)] (by kernel_rfl) ?_
 refine wS1 [0, 1] ?_
 repeat (go_big_quiet_step (fail))
 refine wpQuiet_nil ?_
 refine wpS_nil ?_
 refine then_normal ?_
 refine wp_ret ?_
 refine bodyPost_ret (results_tmp rfl _ _ _) rfl ?_
 exact doesU_ret (v := .pointer (some ⟨b22, 0, none⟩)) (post := fun u => [someT u (newD self inc)]) (Mem.addEx (f := fun b : Blk => prT (Value.pointer (some ⟨b22, 0, none⟩) = Value.pointer (some ⟨b.d, 0, none⟩)) :: LB b (newD self inc)) ⟨b22, pv, pq, po, pc⟩ (Mem.addPr rfl (Mem.only (M := [_, _, _, _, _]) HM34.out [1, 0, 2, 1, 0] rfl))) rfl
set_option maxHeartbeats 4000000 in
set_option maxRecDepth 100000 in
theorem new_bad_node (self inc : Int) (hb : nodeB self = false) : Does Tryz.prog 6 #[.int .i64 self, .int .i64 inc] [] (.pointer none) [] := by
 intro w H hp
 have HM0 := Lib.hid (mem_refl hp)
 clear hp
 have HN : Hid (Does Tryz.prog 25 #[.int .i64 self] [] (.bool false) []) := Lib.hid (by have := isNode_d self; rw [hb] at this; exact this)
 clear hb
 go_enter Tryz.func6, Tryz.ntmps6
 refine wp_seq ?_
 refine wp_region_N [(0, 1)] (by kernel_rfl) ?_
 refine wS1 [0] ?_
 repeat (go_big_quiet_step (fail))
 refine wpQuiet_nil ?_
 refine wpS_nil ?_
 refine then_normal ?_
 refine wp_seq ?_
 refine wp_seq ?_
 refine wp_region_N [(0, 1), (1, 3), (2, 1), (3, 1), (4, 1), (5, 1), (6, 1), (7, 1), (8, 1), (9, 1), (10, 1)] (by kernel_rfl) ?_
 refine wS1 [0] ?_
 repeat (go_big_quiet_step (fail))
 refine wpQuiet_nil ?_
 refine wpS_does1 (i := 1) (d := some 7) (rem := []) (out := []) rfl (by rfl) rfl Tryz.call25 (HN.out) rfl HM0.out [] rfl covS_nil rfl rfl ?_
 rintro W2 hm1 -
 have HM3 := Lib.hid hm1
 clear hm1
 simp only [Act.put, pA, pB, pC]
 refine wS1 [2, 3, 4, 5, 6, 7, 8, 9, 10] ?_
 repeat (go_big_quiet_step (fail))
 refine wpQuiet_nil ?_
 refine wpS_nil ?_
 refine then_normal ?_
 refine wp_cond_true rfl ?_
 refine wp_seq ?_
 refine wp_region_N [(0, 1)] (by kernel_rfl) ?_
 refine wS1 [0] ?_
 repeat (go_big_quiet_step (fail))
 refine wpQuiet_nil ?_
 refine wpS_nil ?_
 refine then_normal ?_
 refine wp_ret ?_
 refine then_ret ?_
 refine bodyPost_ret (results_tmp rfl _ _ _) rfl ?_
 exact does_ret (Mem.only (M := []) HM3.out [] rfl) rfl rfl
set_option maxHeartbeats 4000000 in
set_option maxRecDepth 100000 in
theorem new_bad_low (self inc : Int) (hb : nodeB self = true) (hi : inc < 0) : Does Tryz.prog 6 #[.int .i64 self, .int .i64 inc] [] (.pointer none) [] := by
 intro w H hp
 have HM0 := Lib.hid (mem_refl hp)
 clear hp
 have HN : Hid (Does Tryz.prog 25 #[.int .i64 self] [] (.bool true) []) := Lib.hid (by have := isNode_d self; rw [hb] at this; exact this)
 have g1 : decide (inc < 0) = true := decide_eq_true hi
 clear hb hi
 go_enter Tryz.func6, Tryz.ntmps6
 refine wp_seq ?_
 refine wp_region_N [(0, 1)] (by kernel_rfl) ?_
 refine wS1 [0] ?_
 repeat (go_big_quiet_step (fail))
 refine wpQuiet_nil ?_
 refine wpS_nil ?_
 refine then_normal ?_
 refine wp_seq ?_
 refine wp_seq ?_
 refine wp_region_N [(0, 1), (1, 3), (2, 1), (3, 1), (4, 1), (5, 1), (6, 1), (7, 1), (8, 1), (9, 1), (10, 1)] (by kernel_rfl) ?_
 refine wS1 [0] ?_
 repeat (go_big_quiet_step (fail))
 refine wpQuiet_nil ?_
 refine wpS_does1 (i := 1) (d := some 7) (rem := []) (out := []) rfl (by rfl) rfl Tryz.call25 (HN.out) rfl HM0.out [] rfl covS_nil rfl rfl ?_
 rintro W2 hm1 -
 have HM3 := Lib.hid hm1
 clear hm1
 simp only [Act.put, pA, pB, pC]
 refine wS1 [2, 3, 4, 5, 6, 7, 8, 9, 10] ?_
 repeat (go_big_quiet_step (fail))
 refine wpQuiet_nil ?_
 refine wpS_nil ?_
 refine then_normal ?_
 refine wp_cond_true rfl ?_
 refine wp_seq ?_
 refine wp_region_N [(0, 1)] (by kernel_rfl) ?_
 refine wS1 [0] ?_
 repeat (go_big_quiet_step (fail))
 refine wpQuiet_nil ?_
 refine wpS_nil ?_
 refine then_normal ?_
 refine wp_ret ?_
 refine then_ret ?_
 refine bodyPost_ret (results_tmp rfl _ _ _) rfl ?_
 exact does_ret (Mem.only (M := []) HM3.out [] rfl) rfl rfl
set_option maxHeartbeats 4000000 in
set_option maxRecDepth 100000 in
theorem new_bad_high (self inc : Int) (hb : nodeB self = true) (hi : 1000000 < inc) : Does Tryz.prog 6 #[.int .i64 self, .int .i64 inc] [] (.pointer none) [] := by
 intro w H hp
 have HM0 := Lib.hid (mem_refl hp)
 clear hp
 have HN : Hid (Does Tryz.prog 25 #[.int .i64 self] [] (.bool true) []) := Lib.hid (by have := isNode_d self; rw [hb] at this; exact this)
 have g1 : decide (inc < 0) = false := decide_eq_false (by omega)
 have g2 : decide (1000000 < inc) = true := decide_eq_true hi
 clear hb hi
 go_enter Tryz.func6, Tryz.ntmps6
 refine wp_seq ?_
 refine wp_region_N [(0, 1)] (by kernel_rfl) ?_
 refine wS1 [0] ?_
 repeat (go_big_quiet_step (fail))
 refine wpQuiet_nil ?_
 refine wpS_nil ?_
 refine then_normal ?_
 refine wp_seq ?_
 refine wp_seq ?_
 refine wp_region_N [(0, 1), (1, 3), (2, 1), (3, 1), (4, 1), (5, 1), (6, 1), (7, 1), (8, 1), (9, 1), (10, 1)] (by kernel_rfl) ?_
 refine wS1 [0] ?_
 repeat (go_big_quiet_step (fail))
 refine wpQuiet_nil ?_
 refine wpS_does1 (i := 1) (d := some 7) (rem := []) (out := []) rfl (by rfl) rfl Tryz.call25 (HN.out) rfl HM0.out [] rfl covS_nil rfl rfl ?_
 rintro W2 hm1 -
 have HM3 := Lib.hid hm1
 clear hm1
 simp only [Act.put, pA, pB, pC]
 refine wS1 [2, 3, 4, 5, 6, 7, 8, 9, 10] ?_
 repeat (go_big_quiet_step (fail))
 refine wpQuiet_nil ?_
 refine wpS_nil ?_
 refine then_normal ?_
 refine wp_cond_true rfl ?_
 refine wp_seq ?_
 refine wp_region_N [(0, 1)] (by kernel_rfl) ?_
 refine wS1 [0] ?_
 repeat (go_big_quiet_step (fail))
 refine wpQuiet_nil ?_
 refine wpS_nil ?_
 refine then_normal ?_
 refine wp_ret ?_
 refine then_ret ?_
 refine bodyPost_ret (results_tmp rfl _ _ _) rfl ?_
 exact does_ret (Mem.only (M := []) HM3.out [] rfl) rfl rfl
theorem new_bad (self inc : Int) (h : ¬ ((0 ≤ self ∧ self < 8) ∧ 0 ≤ inc ∧ inc ≤ 1000000)) : Does Tryz.prog 6 #[.int .i64 self, .int .i64 inc] [] (.pointer none) [] := by
 cases hb : nodeB self with
 | false => exact new_bad_node self inc hb
 | true =>
  have : 0 ≤ self ∧ self < 8 := by simpa [nodeB] using hb
  by_cases h1 : inc < 0
  ·exact new_bad_low self inc hb h1
  ·exact new_bad_high self inc hb (by omega)
set_option maxHeartbeats 4000000 in
set_option maxRecDepth 100000 in
theorem leave_again (d : Nat) (s : DS) (pv pq po pc : Nat) (hl : s.left = true) : Does Tryz.prog 10 #[.pointer (some ⟨d, 0, none⟩)] [lanT d s pv pq po pc, viewT pv s.V, queT pq s.Q, ordT po s.self s.O, clkT pc s.C] (cl3 s.self s.inc 4) (LP d (leaveD s).1 pv pq po pc) := by
 intro w H hp
 have HM0 := Lib.hid (mem_refl hp)
 clear hp
 have HD : Hid ((leaveD s).1 = s) := Lib.hid (by unfold leaveD; rw [hl]; rfl)
 go_enter Tryz.func10, Tryz.ntmps10
 refine wp_seq ?_
 refine wp_region_N [(0, 3)] (by kernel_rfl) ?_
 refine wpS_alloc (i := 0) (dd := 2) (z := .agg #[.int .i64 0, .int .i64 0, .int .i64 0]) (cs := #[.int .i64 0, .int .i64 0, .int .i64 0]) rfl (by rfl) rfl (by kernel_rfl) rfl HM0.out covS_nil rfl ?_
 rintro b3 W2 hm1 -
 have HM4 := Lib.hid hm1
 clear hm1
 simp only [Act.put, pA, pB, pC]
 refine wpS_nil ?_
 refine then_normal ?_
 refine wp_seq ?_
 refine wp_seq ?_
 refine wp_region_N [(0, 1), (1, 1)] (by kernel_rfl) ?_
 refine wS1 [0, 1] ?_
 repeat (go_big_quiet_step (fail))
 refine wpQuiet_nil ?_
 refine wpS_nil ?_
 refine then_normal ?_
 refine wp_cond_false rfl ?_
 refine wp_skip ?_
 refine then_normal ?_
 refine wp_seq ?_
 refine wp_region_N [(0, 1), (1, 3), (2, 3), (3, 3)] (by kernel_rfl) ?_
 refine wS1 [0] ?_
 repeat (go_big_quiet_step (fail))
 refine wpQuiet_nil ?_
 refine wpS_does2 (i := 1) (d := some 8) (rem := [_, _, _, _, _]) (out := [_, _, _, _, _, _]) rfl (by rfl) rfl Tryz.call31 (selfAs_d d s pv pq po pc 4) rfl rfl HM4.out [1] rfl covS_nil rfl rfl ?_
 rintro W6 hm5 -
 have HM7 := Lib.hid hm5
 clear hm5
 simp only [Act.put, pA, pB, pC]
 refine wpS_alloc (i := 2) (dd := 3) (z := .agg #[.int .i64 0, .int .i64 0, .int .i64 0]) (cs := #[.int .i64 0, .int .i64 0, .int .i64 0]) rfl (by rfl) rfl (by kernel_rfl) rfl HM7.out covS_nil rfl ?_
 rintro b10 W9 hm8 -
 have HM11 := Lib.hid hm8
 clear hm8
 simp only [Act.put, pA, pB, pC]
 refine wpS_storeA (i := 3) (L2 := [_, _, _, _, _, _]) (cs' := [_, _, _]) rfl (by rfl) rfl rfl rfl (by kernel_rfl) (by rfl) HM11.out 0 rfl rfl rfl rfl covS_nil rfl ?_
 rintro W13 hm12 -
 have HM14 := Lib.hid hm12
 clear hm12
 refine wpS_nil ?_
 refine then_normal ?_
 refine wp_seq ?_
 refine wp_seq ?_
 refine wp_region_N [(0, 1), (1, 1), (2, 1), (3, 1), (4, 1)] (by kernel_rfl) ?_
 have Cd := Mem.cell HM14.out 1 rfl
 refine wS1 [0, 1, 2, 3, 4] ?_
 repeat (go_big_quiet_step (fail))
 refine wpQuiet_nil ?_
 clear Cd
 refine wpS_nil ?_
 refine then_normal ?_
 refine wp_cond_false rfl ?_
 refine wp_skip ?_
 refine then_normal ?_
 refine wp_seq ?_
 refine wp_region_N [(0, 1), (1, 3)] (by kernel_rfl) ?_
 have Cb3 := Mem.cell HM14.out 0 rfl
 refine wS1 [0] ?_
 repeat (go_big_quiet_step (fail))
 refine wpQuiet_nil ?_
 clear Cb3
 refine wpS_storeA (i := 1) (L2 := [_, _, _, _, _, _]) (cs' := [_, _, _]) rfl (by rfl) rfl rfl rfl (by kernel_rfl) (by rfl) HM14.out 2 rfl rfl rfl rfl covS_nil rfl ?_
 rintro W16 hm15 -
 have HM17 := Lib.hid hm15
 clear hm15
 refine wpS_nil ?_
 refine then_normal ?_
 refine wp_ret ?_
 refine ret_cell rfl HM17.out 0 rfl rfl Tryz.underlying30 rfl (by kernel_rfl) rfl ?_
 rw [HD.out]
 exact does_ret (Mem.only (M := [_, _, _, _, _]) HM17.out [2, 2, 2, 2, 2] rfl) rfl rfl
set_option maxHeartbeats 4000000 in
set_option maxRecDepth 100000 in
theorem leave_first (d : Nat) (s : DS) (pv pq po pc : Nat) (hl : s.left = false) : Does Tryz.prog 10 #[.pointer (some ⟨d, 0, none⟩)] [lanT d s pv pq po pc, viewT pv s.V, queT pq s.Q, ordT po s.self s.O, clkT pc s.C] (cl3 s.self s.inc 4) (LP d (leaveD s).1 pv pq po pc) := by
 intro w H hp
 have HM0 := Lib.hid (mem_refl hp)
 clear hp
 have HD : Hid ((leaveD s).1 = DS.tell { s with left := true } ⟨s.self, s.inc, 4⟩) := Lib.hid (by unfold leaveD; rw [hl]; rfl)
 go_enter Tryz.func10, Tryz.ntmps10
 refine wp_seq ?_
 refine wp_region_N [(0, 3)] (by kernel_rfl) ?_
 refine wpS_alloc (i := 0) (dd := 2) (z := .agg #[.int .i64 0, .int .i64 0, .int .i64 0]) (cs := #[.int .i64 0, .int .i64 0, .int .i64 0]) rfl (by rfl) rfl (by kernel_rfl) rfl HM0.out covS_nil rfl ?_
 rintro b3 W2 hm1 -
 have HM4 := Lib.hid hm1
 clear hm1
 simp only [Act.put, pA, pB, pC]
 refine wpS_nil ?_
 refine then_normal ?_
 refine wp_seq ?_
 refine wp_seq ?_
 refine wp_region_N [(0, 1), (1, 1)] (by kernel_rfl) ?_
 refine wS1 [0, 1] ?_
 repeat (go_big_quiet_step (fail))
 refine wpQuiet_nil ?_
 refine wpS_nil ?_
 refine then_normal ?_
 refine wp_cond_false rfl ?_
 refine wp_skip ?_
 refine then_normal ?_
 refine wp_seq ?_
 refine wp_region_N [(0, 1), (1, 3), (2, 3), (3, 3)] (by kernel_rfl) ?_
 refine wS1 [0] ?_
 repeat (go_big_quiet_step (fail))
 refine wpQuiet_nil ?_
 refine wpS_does2 (i := 1) (d := some 8) (rem := [_, _, _, _, _]) (out := [_, _, _, _, _, _]) rfl (by rfl) rfl Tryz.call31 (selfAs_d d s pv pq po pc 4) rfl rfl HM4.out [1] rfl covS_nil rfl rfl ?_
 rintro W6 hm5 -
 have HM7 := Lib.hid hm5
 clear hm5
 simp only [Act.put, pA, pB, pC]
 refine wpS_alloc (i := 2) (dd := 3) (z := .agg #[.int .i64 0, .int .i64 0, .int .i64 0]) (cs := #[.int .i64 0, .int .i64 0, .int .i64 0]) rfl (by rfl) rfl (by kernel_rfl) rfl HM7.out covS_nil rfl ?_
 rintro b10 W9 hm8 -
 have HM11 := Lib.hid hm8
 clear hm8
 simp only [Act.put, pA, pB, pC]
 refine wpS_storeA (i := 3) (L2 := [_, _, _, _, _, _]) (cs' := [_, _, _]) rfl (by rfl) rfl rfl rfl (by kernel_rfl) (by rfl) HM11.out 0 rfl rfl rfl rfl covS_nil rfl ?_
 rintro W13 hm12 -
 have HM14 := Lib.hid hm12
 clear hm12
 refine wpS_nil ?_
 refine then_normal ?_
 refine wp_seq ?_
 refine wp_seq ?_
 refine wp_region_N [(0, 1), (1, 1), (2, 1), (3, 1), (4, 1)] (by kernel_rfl) ?_
 have Cd := Mem.cell HM14.out 1 rfl
 refine wS1 [0, 1, 2, 3, 4] ?_
 repeat (go_big_quiet_step (fail))
 refine wpQuiet_nil ?_
 clear Cd
 refine wpS_nil ?_
 refine then_normal ?_
 refine wp_cond_true rfl ?_
 refine wp_seq ?_
 refine wp_region_N [(0, 1), (1, 1), (2, 1), (3, 3)] (by kernel_rfl) ?_
 refine wS1 [0, 1, 2] ?_
 repeat (go_big_quiet_step (fail))
 refine wpQuiet_nil ?_
 refine wpS_store1 (i := 3) (v := .bool _) (L2 := [_, _, _, _, _, _]) (cs' := [_, _, _, _, _, _, _, _, _, _, _]) rfl (by rfl) rfl rfl rfl rfl (by kernel_rfl) rfl HM14.out 1 rfl rfl rfl rfl covS_nil rfl ?_
 rintro W16 hm15 -
 have HM17 := Lib.hid hm15
 clear hm15
 refine wpS_nil ?_
 refine then_normal ?_
 refine wp_region_N [(0, 1), (1, 1), (2, 3)] (by kernel_rfl) ?_
 have Cb3 := Mem.cell HM17.out 1 rfl
 refine wS1 [0, 1] ?_
 repeat (go_big_quiet_step (fail))
 refine wpQuiet_nil ?_
 clear Cb3
 refine wpS_does2 (i := 2) (d := some 19) (rem := [_, _, _, _]) (out := [_, _, _, _, _, _, _]) rfl (by rfl) rfl Tryz.call41 (spread_d d { s with left := true } pv pq po pc s.self s.inc 4) rfl rfl HM17.out [0, 2, 2] rfl covS_nil rfl rfl ?_
 rintro W19 hm18 -
 have HM20 := Lib.hid hm18
 clear hm18
 simp only [Act.put, pA, pB, pC]
 refine wpS_nil ?_
 refine then_normal ?_
 refine wp_seq ?_
 refine wp_region_N [(0, 1), (1, 3)] (by kernel_rfl) ?_
 have Cb3 := Mem.cell HM20.out 3 rfl
 refine wS1 [0] ?_
 repeat (go_big_quiet_step (fail))
 refine wpQuiet_nil ?_
 clear Cb3
 refine wpS_storeA (i := 1) (L2 := [_, _, _, _, _, _]) (cs' := [_, _, _]) rfl (by rfl) rfl rfl rfl (by kernel_rfl) (by rfl) HM20.out 4 rfl rfl rfl rfl covS_nil rfl ?_
 rintro W22 hm21 -
 have HM23 := Lib.hid hm21
 clear hm21
 refine wpS_nil ?_
 refine then_normal ?_
 refine wp_ret ?_
 refine ret_cell rfl HM23.out 0 rfl rfl Tryz.underlying30 rfl (by kernel_rfl) rfl ?_
 rw [HD.out]
 exact does_ret (Mem.only (M := [_, _, _, _, _]) HM23.out [1, 1, 1, 2, 2] rfl) rfl rfl
theorem leave_d (d : Nat) (s : DS) (pv pq po pc : Nat) : Does Tryz.prog 10 #[.pointer (some ⟨d, 0, none⟩)] (LP d s pv pq po pc) (cl3 s.self s.inc 4) (LP d (leaveD s).1 pv pq po pc) := by
 cases hl : s.left with
 | true => exact leave_again d s pv pq po pc hl
 | false => exact leave_first d s pv pq po pc hl
set_option maxHeartbeats 4000000 in
set_option maxRecDepth 100000 in
theorem hearCall_bad (d : Nat) (s : DS) (pv pq po pc : Nat) (n i h : Int) (hs : LOk s) (hm : mayK ⟨n, i, h⟩ = false) : Does Tryz.prog 8 #[.pointer (some ⟨d, 0, none⟩), cl3 n i h] [lanT d s pv pq po pc, viewT pv s.V, queT pq s.Q, ordT po s.self s.O, clkT pc s.C] (.int .i64 (hearCall s ⟨n, i, h⟩).2) (LP d (hearCall s ⟨n, i, h⟩).1 pv pq po pc) := by
 intro w H hp
 have HM0 := Lib.hid (mem_refl hp)
 clear hp
 have HMay : Hid (Does Tryz.prog 36 #[cl3 n i h] [] (.bool false) []) := Lib.hid (by have := may_d n i h; rw [hm] at this; exact this)
 have HD : Hid (hearCall s ⟨n, i, h⟩ = (s, 1)) := Lib.hid (by unfold hearCall; rw [if_pos (.inl hm)])
 clear hm hs
 go_enter Tryz.func8, Tryz.ntmps8
 refine wp_seq ?_
 refine wp_region_N [(0, 3), (1, 1)] (by kernel_rfl) ?_
 refine wpS_boxA (i := 0) (dd := 3) rfl (by rfl) rfl rfl HM0.out covS_nil rfl ?_
 rintro b3 W2 hm1 -
 have HM4 := Lib.hid hm1
 clear hm1
 simp only [Act.put, pA, pB, pC]
 refine wS1 [1] ?_
 repeat (go_big_quiet_step (fail))
 refine wpQuiet_nil ?_
 refine wpS_nil ?_
 refine then_normal ?_
 refine wp_seq ?_
 refine wp_seq ?_
 refine wp_region_N [(0, 1), (1, 1), (2, 1), (3, 1), (4, 3), (5, 1), (6, 1), (7, 1), (8, 1), (9, 1), (10, 1), (11, 1)] (by kernel_rfl) ?_
 have Cb3 := Mem.cell HM4.out 0 rfl
 refine wS1 [0, 1, 2, 3] ?_
 repeat (go_big_quiet_step (fail))
 refine wpQuiet_nil ?_
 clear Cb3
 refine wpS_does1 (i := 4) (d := some 9) (rem := [_, _, _, _, _, _]) (out := [_, _, _, _, _, _]) rfl (by rfl) rfl Tryz.call36 (HMay.out) rfl HM4.out [] rfl covS_nil rfl rfl ?_
 rintro W6 hm5 -
 have HM7 := Lib.hid hm5
 clear hm5
 simp only [Act.put, pA, pB, pC]
 have Cb3 := Mem.cell HM7.out 0 rfl
 refine wS1 [5, 6, 7, 8, 9, 10, 11] ?_
 repeat (go_big_quiet_step (fail))
 refine wpQuiet_nil ?_
 clear Cb3
 refine wpS_nil ?_
 refine then_normal ?_
 refine wp_cond_true rfl ?_
 refine wp_seq ?_
 refine wp_region_N [(0, 1)] (by kernel_rfl) ?_
 refine wS1 [0] ?_
 repeat (go_big_quiet_step (fail))
 refine wpQuiet_nil ?_
 refine wpS_nil ?_
 refine then_normal ?_
 refine wp_ret ?_
 refine then_ret ?_
 refine bodyPost_ret (results_tmp rfl _ _ _) rfl ?_
 rw [HD.out]
 exact does_ret (Mem.only (M := [_, _, _, _, _]) HM7.out [1, 1, 1, 1, 1] rfl) rfl rfl
set_option maxHeartbeats 4000000 in
set_option maxRecDepth 100000 in
theorem hearCall_none (d : Nat) (s : DS) (pv pq po pc : Nat) (n i h : Int) (hs : LOk s) (hm : mayK ⟨n, i, h⟩ = true) (hn : h = 0) : Does Tryz.prog 8 #[.pointer (some ⟨d, 0, none⟩), cl3 n i h] [lanT d s pv pq po pc, viewT pv s.V, queT pq s.Q, ordT po s.self s.O, clkT pc s.C] (.int .i64 (hearCall s ⟨n, i, h⟩).2) (LP d (hearCall s ⟨n, i, h⟩).1 pv pq po pc) := by
 intro w H hp
 have HM0 := Lib.hid (mem_refl hp)
 clear hp
 have HMay : Hid (Does Tryz.prog 36 #[cl3 n i h] [] (.bool true) []) := Lib.hid (by have := may_d n i h; rw [hm] at this; exact this)
 have g1 : (h == 0) = true := by rw [beq_iff_eq]; exact hn
 have HD : Hid (hearCall s ⟨n, i, h⟩ = (s, 1)) := Lib.hid (by unfold hearCall; rw [if_pos (.inr (by simp only [mayK, mayB, decide_eq_true_eq] at hm; simp [nothingK, nothingB]; omega))])
 clear hm hn hs
 go_enter Tryz.func8, Tryz.ntmps8
 refine wp_seq ?_
 refine wp_region_N [(0, 3), (1, 1)] (by kernel_rfl) ?_
 refine wpS_boxA (i := 0) (dd := 3) rfl (by rfl) rfl rfl HM0.out covS_nil rfl ?_
 rintro b3 W2 hm1 -
 have HM4 := Lib.hid hm1
 clear hm1
 simp only [Act.put, pA, pB, pC]
 refine wS1 [1] ?_
 repeat (go_big_quiet_step (fail))
 refine wpQuiet_nil ?_
 refine wpS_nil ?_
 refine then_normal ?_
 refine wp_seq ?_
 refine wp_seq ?_
 refine wp_region_N [(0, 1), (1, 1), (2, 1), (3, 1), (4, 3), (5, 1), (6, 1), (7, 1), (8, 1), (9, 1), (10, 1), (11, 1)] (by kernel_rfl) ?_
 have Cb3 := Mem.cell HM4.out 0 rfl
 refine wS1 [0, 1, 2, 3] ?_
 repeat (go_big_quiet_step (fail))
 refine wpQuiet_nil ?_
 clear Cb3
 refine wpS_does1 (i := 4) (d := some 9) (rem := [_, _, _, _, _, _]) (out := [_, _, _, _, _, _]) rfl (by rfl) rfl Tryz.call36 (HMay.out) rfl HM4.out [] rfl covS_nil rfl rfl ?_
 rintro W6 hm5 -
 have HM7 := Lib.hid hm5
 clear hm5
 simp only [Act.put, pA, pB, pC]
 have Cb3 := Mem.cell HM7.out 0 rfl
 refine wS1 [5, 6, 7, 8, 9, 10, 11] ?_
 repeat (go_big_quiet_step (fail))
 refine wpQuiet_nil ?_
 clear Cb3
 refine wpS_nil ?_
 refine then_normal ?_
 refine wp_cond_true rfl ?_
 refine wp_seq ?_
 refine wp_region_N [(0, 1)] (by kernel_rfl) ?_
 refine wS1 [0] ?_
 repeat (go_big_quiet_step (fail))
 refine wpQuiet_nil ?_
 refine wpS_nil ?_
 refine then_normal ?_
 refine wp_ret ?_
 refine then_ret ?_
 refine bodyPost_ret (results_tmp rfl _ _ _) rfl ?_
 rw [HD.out]
 exact does_ret (Mem.only (M := [_, _, _, _, _]) HM7.out [1, 1, 1, 1, 1] rfl) rfl rfl
set_option maxHeartbeats 4000000 in
set_option maxRecDepth 100000 in
theorem hearCall_good (d : Nat) (s : DS) (pv pq po pc : Nat) (n i h : Int) (hs : LOk s) (hm : mayK ⟨n, i, h⟩ = true) (hn : ¬ h = 0) : Does Tryz.prog 8 #[.pointer (some ⟨d, 0, none⟩), cl3 n i h] [lanT d s pv pq po pc, viewT pv s.V, queT pq s.Q, ordT po s.self s.O, clkT pc s.C] (.int .i64 (hearCall s ⟨n, i, h⟩).2) (LP d (hearCall s ⟨n, i, h⟩).1 pv pq po pc) := by
 intro w H hp
 have HM0 := Lib.hid (mem_refl hp)
 clear hp
 have HMay : Hid (Does Tryz.prog 36 #[cl3 n i h] [] (.bool true) []) := Lib.hid (by have := may_d n i h; rw [hm] at this; exact this)
 have g1 : (h == 0) = false := by rw [beq_eq_false_iff_ne]; exact hn
 have HD : Hid (hearCall s ⟨n, i, h⟩ = hearD s ⟨n, i, h⟩) := Lib.hid (by unfold hearCall; rw [if_neg (by rintro (h1 | h1); (rw [hm] at h1; cases h1); simp [nothingK, nothingB] at h1; exact hn h1.2)])
 have HH := Lib.hid (hear_d d s pv pq po pc n i h hs hm)
 clear hm hn hs
 go_enter Tryz.func8, Tryz.ntmps8
 refine wp_seq ?_
 refine wp_region_N [(0, 3), (1, 1)] (by kernel_rfl) ?_
 refine wpS_boxA (i := 0) (dd := 3) rfl (by rfl) rfl rfl HM0.out covS_nil rfl ?_
 rintro b3 W2 hm1 -
 have HM4 := Lib.hid hm1
 clear hm1
 simp only [Act.put, pA, pB, pC]
 refine wS1 [1] ?_
 repeat (go_big_quiet_step (fail))
 refine wpQuiet_nil ?_
 refine wpS_nil ?_
 refine then_normal ?_
 refine wp_seq ?_
 refine wp_seq ?_
 refine wp_region_N [(0, 1), (1, 1), (2, 1), (3, 1), (4, 3), (5, 1), (6, 1), (7, 1), (8, 1), (9, 1), (10, 1), (11, 1)] (by kernel_rfl) ?_
 have Cb3 := Mem.cell HM4.out 0 rfl
 refine wS1 [0, 1, 2, 3] ?_
 repeat (go_big_quiet_step (fail))
 refine wpQuiet_nil ?_
 clear Cb3
 refine wpS_does1 (i := 4) (d := some 9) (rem := [_, _, _, _, _, _]) (out := [_, _, _, _, _, _]) rfl (by rfl) rfl Tryz.call36 (HMay.out) rfl HM4.out [] rfl covS_nil rfl rfl ?_
 rintro W6 hm5 -
 have HM7 := Lib.hid hm5
 clear hm5
 simp only [Act.put, pA, pB, pC]
 have Cb3 := Mem.cell HM7.out 0 rfl
 refine wS1 [5, 6, 7, 8, 9, 10, 11] ?_
 repeat (go_big_quiet_step (fail))
 refine wpQuiet_nil ?_
 clear Cb3
 refine wpS_nil ?_
 refine then_normal ?_
 refine wp_cond_false rfl ?_
 refine wp_skip ?_
 refine then_normal ?_
 refine wp_seq ?_
 refine wp_region_N [(0, 1), (1, 1), (2, 3), (3, 1)] (by kernel_rfl) ?_
 have Cb3 := Mem.cell HM7.out 0 rfl
 refine wS1 [0, 1] ?_
 repeat (go_big_quiet_step (fail))
 refine wpQuiet_nil ?_
 clear Cb3
 refine wpS_does2 (i := 2) (d := some 19) (rem := [_]) (out := [_, _, _, _, _, _]) rfl (by rfl) rfl Tryz.call37 (HH.out) rfl rfl HM7.out [1, 1, 1, 1, 1] rfl covS_nil rfl rfl ?_
 rintro W9 hm8 -
 have HM10 := Lib.hid hm8
 clear hm8
 simp only [Act.put, pA, pB, pC]
 refine wS1 [3] ?_
 repeat (go_big_quiet_step (fail))
 refine wpQuiet_nil ?_
 refine wpS_nil ?_
 refine then_normal ?_
 refine wp_ret ?_
 refine bodyPost_ret (results_tmp rfl _ _ _) rfl ?_
 rw [HD.out]
 exact does_ret (Mem.only (M := [_, _, _, _, _]) HM10.out [0, 0, 0, 0, 0] rfl) rfl rfl
theorem hearCall_d (d : Nat) (s : DS) (pv pq po pc : Nat) (n i h : Int) (hs : LOk s) : Does Tryz.prog 8 #[.pointer (some ⟨d, 0, none⟩), cl3 n i h] (LP d s pv pq po pc) (.int .i64 (hearCall s ⟨n, i, h⟩).2) (LP d (hearCall s ⟨n, i, h⟩).1 pv pq po pc) := by
 cases hm : mayK ⟨n, i, h⟩ with
 | false => exact hearCall_bad d s pv pq po pc n i h hs hm
 | true =>
  by_cases hn : h = 0
  ·exact hearCall_none d s pv pq po pc n i h hs hm hn
  ·exact hearCall_good d s pv pq po pc n i h hs hm hn
set_option maxHeartbeats 4000000 in
set_option maxRecDepth 100000 in
theorem of_d (d : Nat) (s : DS) (pv pq po pc : Nat) (n : Int) : Does Tryz.prog 23 #[.pointer (some ⟨d, 0, none⟩), .int .i64 n] [lanT d s pv pq po pc, viewT pv s.V] (cl3 (ofV s.V n).n (ofV s.V n).i (ofV s.V n).h) [lanT d s pv pq po pc, viewT pv s.V] := by
 intro w H hp
 have HM0 := Lib.hid (mem_refl hp)
 clear hp
 obtain ⟨⟨c0, c1, c2⟩, hc'⟩ : ∃ c, ofV s.V n = c := ⟨_, rfl⟩
 have hc := Lib.hid hc'
 have HV : Hid (Does Tryz.prog 59 #[.pointer (some ⟨pv, 0, none⟩), .int .i64 n] [viewT pv s.V] (cl3 c0 c1 c2) [viewT pv s.V]) := Lib.hid (by have := view_of pv s.V n; rw [hc'] at this; exact this)
 clear hc'
 go_enter Tryz.func23, Tryz.ntmps23
 refine wp_seq ?_
 refine wp_region_N [(0, 3)] (by kernel_rfl) ?_
 refine wpS_alloc (i := 0) (dd := 4) (z := .agg #[.int .i64 0, .int .i64 0, .int .i64 0]) (cs := #[.int .i64 0, .int .i64 0, .int .i64 0]) rfl (by rfl) rfl (by kernel_rfl) rfl HM0.out covS_nil rfl ?_
 rintro b3 W2 hm1 -
 have HM4 := Lib.hid hm1
 clear hm1
 simp only [Act.put, pA, pB, pC]
 refine wpS_nil ?_
 refine then_normal ?_
 refine wp_seq ?_
 refine wp_seq ?_
 refine wp_region_N [(0, 1), (1, 1)] (by kernel_rfl) ?_
 refine wS1 [0, 1] ?_
 repeat (go_big_quiet_step (fail))
 refine wpQuiet_nil ?_
 refine wpS_nil ?_
 refine then_normal ?_
 refine wp_cond_false rfl ?_
 refine wp_skip ?_
 refine then_normal ?_
 refine wp_seq ?_
 refine wp_region_N [(0, 1), (1, 1), (2, 1), (3, 1), (4, 1), (5, 3), (6, 3)] (by kernel_rfl) ?_
 have Cd := Mem.cell HM4.out 1 rfl
 refine wS1 [0, 1, 2, 3, 4] ?_
 repeat (go_big_quiet_step (fail))
 refine wpQuiet_nil ?_
 clear Cd
 refine wpS_does2 (i := 5) (d := some 13) (rem := [_, _]) (out := [_, _, _]) rfl (by rfl) rfl Tryz.call59 (HV.out) rfl rfl HM4.out [2] rfl covS_nil rfl rfl ?_
 rintro W6 hm5 -
 have HM7 := Lib.hid hm5
 clear hm5
 simp only [Act.put, pA, pB, pC]
 refine wpS_storeA (i := 6) (L2 := [_, _]) (cs' := [_, _, _]) rfl (by rfl) rfl rfl rfl (by kernel_rfl) (by rfl) HM7.out 1 rfl rfl rfl rfl covS_nil rfl ?_
 rintro W9 hm8 -
 have HM10 := Lib.hid hm8
 clear hm8
 refine wpS_nil ?_
 refine then_normal ?_
 refine wp_ret ?_
 refine ret_cell rfl HM10.out 0 rfl rfl Tryz.underlying30 rfl (by kernel_rfl) rfl ?_
 rw [hc.out]
 exact does_ret (Mem.only (M := [_, _]) HM10.out [2, 1] rfl) rfl rfl
theorem view_all (b : Nat) (V : Vw) : DoesU Tryz.prog 58 #[.pointer (some ⟨b, 0, none⟩)] [viewT b V] fun u => [rowT elemCl u (saidV V), viewT b V] := fun W H hs => (viewB_all b V W H (emp_right hs)).mono fun e W' ⟨v, he, hm⟩ => ⟨v, he, SEnd.fresh (HQ := fun k => v.ownBlock = some k) (stars_owns [viewT b V]) (rowT elemCl v (saidV V)).owns (sEnd_refl hs) hm.2 ⟨row_zeroE hm.1, fun _ => .rfl⟩ fun k hk => (hm.1.lt k hk).1⟩
set_option maxHeartbeats 4000000 in
set_option maxRecDepth 100000 in
theorem all_d (d : Nat) (s : DS) (pv pq po pc : Nat) : DoesU Tryz.prog 21 #[.pointer (some ⟨d, 0, none⟩)] [lanT d s pv pq po pc, viewT pv s.V] (fun u => [rowT elemCl u (saidV s.V), lanT d s pv pq po pc, viewT pv s.V]) := by
 intro w H hp
 have HM0 := Lib.hid (mem_refl hp)
 clear hp
 go_enter Tryz.func21, Tryz.ntmps21
 refine wp_seq ?_
 refine wp_region_N [(0, 1)] (by kernel_rfl) ?_
 refine wS1 [0] ?_
 repeat (go_big_quiet_step (fail))
 refine wpQuiet_nil ?_
 refine wpS_nil ?_
 refine then_normal ?_
 refine wp_seq ?_
 refine wp_seq ?_
 refine wp_region_N [(0, 1), (1, 1)] (by kernel_rfl) ?_
 refine wS1 [0, 1] ?_
 repeat (go_big_quiet_step (fail))
 refine wpQuiet_nil ?_
 refine wpS_nil ?_
 refine then_normal ?_
 refine wp_cond_false rfl ?_
 refine wp_skip ?_
 refine then_normal ?_
 refine wp_seq ?_
 refine wp_region_N [(0, 1), (1, 1), (2, 1), (3, 1), (4, 3), (5, 1)] (by kernel_rfl) ?_
 have Cd := Mem.cell HM0.out 0 rfl
 refine wS1 [0, 1, 2, 3] ?_
 repeat (go_big_quiet_step (fail))
 refine wpQuiet_nil ?_
 clear Cd
 refine wpS_doesU1 (i := 4) (d := some 9) (rem := [_]) rfl (by rfl) rfl Tryz.call58 (view_all pv s.V) rfl HM0.out [1] rfl covS_nil (fun _ => rfl) rfl ?_
 rintro u3 W2 hm1 -
 have HM4 := Lib.hid hm1
 clear hm1
 simp only [Act.put, pA, pB, pC]
 refine wS1 [5] ?_
 repeat (go_big_quiet_step (fail))
 refine wpQuiet_nil ?_
 refine wpS_nil ?_
 refine then_normal ?_
 refine wp_ret ?_
 refine bodyPost_ret (results_tmp rfl _ _ _) rfl ?_
 exact doesU_ret (post := fun u => [rowT elemCl u (saidV s.V), lanT d s pv pq po pc, viewT pv s.V]) (Mem.only (M := [_, _, _]) HM4.out [0, 1, 0] rfl) rfl
set_option maxHeartbeats 4000000 in
set_option maxRecDepth 100000 in
theorem inc_d (d : Nat) (s : DS) (pv pq po pc : Nat) : Does Tryz.prog 17 #[.pointer (some ⟨d, 0, none⟩)] [lanT d s pv pq po pc] (.int .i64 s.inc) [lanT d s pv pq po pc] := by
 intro w H hp
 have HM0 := Lib.hid (mem_refl hp)
 clear hp
 go_enter Tryz.func17, Tryz.ntmps17
 refine wp_seq ?_
 refine wp_region_N [(0, 1)] (by kernel_rfl) ?_
 refine wS1 [0] ?_
 repeat (go_big_quiet_step (fail))
 refine wpQuiet_nil ?_
 refine wpS_nil ?_
 refine then_normal ?_
 refine wp_seq ?_
 refine wp_seq ?_
 refine wp_region_N [(0, 1), (1, 1)] (by kernel_rfl) ?_
 refine wS1 [0, 1] ?_
 repeat (go_big_quiet_step (fail))
 refine wpQuiet_nil ?_
 refine wpS_nil ?_
 refine then_normal ?_
 refine wp_cond_false rfl ?_
 refine wp_skip ?_
 refine then_normal ?_
 refine wp_seq ?_
 refine wp_region_N [(0, 1), (1, 1), (2, 1), (3, 1), (4, 1)] (by kernel_rfl) ?_
 have Cd := Mem.cell HM0.out 0 rfl
 refine wS1 [0, 1, 2, 3, 4] ?_
 repeat (go_big_quiet_step (fail))
 refine wpQuiet_nil ?_
 clear Cd
 refine wpS_nil ?_
 refine then_normal ?_
 refine wp_ret ?_
 refine bodyPost_ret (results_tmp rfl _ _ _) rfl ?_
 exact does_ret (Mem.only (M := [_]) HM0.out [0] rfl) rfl rfl
set_option maxHeartbeats 4000000 in
set_option maxRecDepth 100000 in
theorem now_d (d : Nat) (s : DS) (pv pq po pc : Nat) : Does Tryz.prog 18 #[.pointer (some ⟨d, 0, none⟩)] [lanT d s pv pq po pc] (.int .i64 s.now) [lanT d s pv pq po pc] := by
 intro w H hp
 have HM0 := Lib.hid (mem_refl hp)
 clear hp
 go_enter Tryz.func18, Tryz.ntmps18
 refine wp_seq ?_
 refine wp_region_N [(0, 1)] (by kernel_rfl) ?_
 refine wS1 [0] ?_
 repeat (go_big_quiet_step (fail))
 refine wpQuiet_nil ?_
 refine wpS_nil ?_
 refine then_normal ?_
 refine wp_seq ?_
 refine wp_seq ?_
 refine wp_region_N [(0, 1), (1, 1)] (by kernel_rfl) ?_
 refine wS1 [0, 1] ?_
 repeat (go_big_quiet_step (fail))
 refine wpQuiet_nil ?_
 refine wpS_nil ?_
 refine then_normal ?_
 refine wp_cond_false rfl ?_
 refine wp_skip ?_
 refine then_normal ?_
 refine wp_seq ?_
 refine wp_region_N [(0, 1), (1, 1), (2, 1), (3, 1), (4, 1)] (by kernel_rfl) ?_
 have Cd := Mem.cell HM0.out 0 rfl
 refine wS1 [0, 1, 2, 3, 4] ?_
 repeat (go_big_quiet_step (fail))
 refine wpQuiet_nil ?_
 clear Cd
 refine wpS_nil ?_
 refine then_normal ?_
 refine wp_ret ?_
 refine bodyPost_ret (results_tmp rfl _ _ _) rfl ?_
 exact does_ret (Mem.only (M := [_]) HM0.out [0] rfl) rfl rfl
set_option maxHeartbeats 4000000 in
set_option maxRecDepth 100000 in
theorem over_d (d : Nat) (s : DS) (pv pq po pc : Nat) : Does Tryz.prog 19 #[.pointer (some ⟨d, 0, none⟩)] [lanT d s pv pq po pc] (.bool s.over) [lanT d s pv pq po pc] := by
 intro w H hp
 have HM0 := Lib.hid (mem_refl hp)
 clear hp
 go_enter Tryz.func19, Tryz.ntmps19
 refine wp_seq ?_
 refine wp_region_N [(0, 1)] (by kernel_rfl) ?_
 refine wS1 [0] ?_
 repeat (go_big_quiet_step (fail))
 refine wpQuiet_nil ?_
 refine wpS_nil ?_
 refine then_normal ?_
 refine wp_seq ?_
 refine wp_region_N [(0, 1), (1, 1), (2, 1), (3, 1), (4, 1), (5, 1), (6, 1), (7, 1), (8, 1)] (by kernel_rfl) ?_
 have Cd := Mem.cell HM0.out 0 rfl
 refine wS1 [0, 1, 2, 3, 4, 5, 6, 7, 8] ?_
 repeat (go_big_quiet_step (fail))
 refine wpQuiet_nil ?_
 clear Cd
 refine wpS_nil ?_
 refine then_normal ?_
 refine wp_ret ?_
 refine bodyPost_ret (results_tmp rfl _ _ _) rfl ?_
 exact does_ret (Mem.only (M := [_]) HM0.out [0] rfl) rfl rfl
end Go.Proofs.YtjbihgfdgaiecaaGreat
