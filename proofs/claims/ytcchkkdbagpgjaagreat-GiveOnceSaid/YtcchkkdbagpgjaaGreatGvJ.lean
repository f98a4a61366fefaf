/- The landed giver: the small ones. -/
import Derived.Test.YtcchkkdbagpgjaaGreatQ17
import Derived.Test.YtcchkkdbagpgjaaGreatLgE
import Derived.Test.YtcchkkdbagpgjaaGreatPB
import Derived.Test.YtcchkkdbagpgjaaGreatPA
namespace Go.Proofs.YtcchkkdbagpgjaaGreat
open Go Go.RowKit Go.BigFrame
def gvT (g : Nat) (A : At) (G : Gv) : At := exT fun s : List Pz × Nat => [prT (s.1.map (fun x => x.o) = G.out ∧ ∀ x ∈ s.1, Reads elemV A x.sv x.o.b.v ∧ x.o.b.v.length ≤ 32), ghT g s.2 G s.1, fdT s.2 G.F, pcsT s.1]
def gvN (u : Value) (G : Gv) : At := exT fun g : Nat => [prT (u = .pointer (some ⟨g, 0, none⟩)), gvT g (listT []) G, listT []]
def gtT (g : Nat) (A : At) (u : Value) (G : Gv) (l : List Ms) : At := exT fun rs : List At => [tellsT (listT (rs ++ [A])) u l, gvT g (listT (rs ++ [A])) G, listT (rs ++ [A])]
section
variable {L : List At} {H0 : Nat → Prop} {w W : World} {u : Value} {G : Gv} {g c : Nat} {A B : At} {l : List Ms} {D : List Pz}
theorem Mem.gv (h : Mem (gvT g A G :: L) H0 w W) : ∃ D c, D.map (fun x => x.o) = G.out ∧ (∀ x ∈ D, Reads elemV A x.sv x.o.b.v ∧ x.o.b.v.length ≤ 32) ∧ Mem (ghT g c G D :: fdT c G.F :: pcsT D :: L) H0 w W := by
 obtain ⟨s, h⟩ := Mem.ex h
 obtain ⟨hu, h⟩ := Mem.pr h
 exact ⟨s.1, s.2, hu.1, hu.2, h⟩
theorem Mem.toGv (h1 : D.map (fun x => x.o) = G.out) (h2 : ∀ x ∈ D, Reads elemV A x.sv x.o.b.v ∧ x.o.b.v.length ≤ 32) (h : Mem (ghT g c G D :: fdT c G.F :: pcsT D :: L) H0 w W) : Mem (gvT g A G :: L) H0 w W := Mem.addEx (D, c) (Mem.addPr ⟨h1, h2⟩ h)
theorem Mem.gvN (h : Mem (gvN u G :: L) H0 w W) : ∃ g, u = .pointer (some ⟨g, 0, none⟩) ∧ Mem (gvT g (listT []) G :: listT [] :: L) H0 w W := by
 obtain ⟨s, h⟩ := Mem.ex h
 obtain ⟨hu, h⟩ := Mem.pr h
 exact ⟨s, hu, h⟩
theorem Mem.gt (h : Mem (gtT g A u G l :: L) H0 w W) : ∃ rs, Mem (tellsT (listT (rs ++ [A])) u l :: gvT g (listT (rs ++ [A])) G :: listT (rs ++ [A]) :: L) H0 w W := Mem.ex h
theorem Mem.intoL {m : List At} (h : Mem (B :: listT m :: L) H0 w W) : Mem (listT (B :: m) :: L) H0 w W := SEnd.mono h fun _ h => star_assoc' h
theorem Mem.asL (h : Mem (A :: L) H0 w W) : Mem (listT [A] :: L) H0 w W := h.as fun _ h => star_comm (starl_emp h)
theorem Mem.toTells {xs : List Mx} {p : Option Addr} {c : Nat} (h1 : xs.map (fun x => x.m) = l) (h2 : ∀ x ∈ xs, OwnM A x) (h : Mem (rowT elemMx (.slice p xs.length c) xs :: L) H0 w W) : Mem (tellsT A (.slice p xs.length c) l :: L) H0 w W := Mem.addEx (xs, p, c) (Mem.addPr ⟨rfl, h1, h2⟩ h)
theorem gv_len (h : D.map (fun x => x.o) = G.out) : D.length = G.out.length := by rw [← h, List.length_map]
theorem gv_srt (h : D.map (fun x => x.o) = G.out) (hs : G.out.Pairwise fun a b => a.seq < b.seq) : D.Pairwise fun a b => a.o.seq < b.o.seq := by
 rw [← h] at hs
 exact (List.pairwise_map (f := fun x : Pz => x.o)).1 hs
end
theorem Reads.mono {α : Type} {E : Elem Tryz.prog α} {A B : At} {v : Value} {xs : List α} (h : Reads E A v xs) (hb : ∀ W H, B.p W H → ∃ H', A.p W H') : Reads E B v xs := fun W H hs => by
 obtain ⟨H', h1⟩ := hb W H hs
 exact h W H' h1
def sentT (u : Value) (m : Ms) : At := exT fun s : Option Addr × Nat => [prT (u = msV m (.slice s.1 m.b.v.length s.2) (.slice none 0 0) (.slice none 0 0)), rowT elemV (.slice s.1 m.b.v.length s.2) m.b.v]
theorem Mem.sent {L : List At} {H0 : Nat → Prop} {w W : World} {u : Value} {m : Ms} (h : Mem (sentT u m :: L) H0 w W) : ∃ p c, u = msV m (.slice p m.b.v.length c) (.slice none 0 0) (.slice none 0 0) ∧ Mem (rowT elemV (.slice p m.b.v.length c) m.b.v :: L) H0 w W := by
 obtain ⟨s, h⟩ := Mem.ex h
 obtain ⟨hu, h⟩ := Mem.pr h
 exact ⟨s.1, s.2, hu, h⟩
theorem Mem.toSent {L : List At} {H0 : Nat → Prop} {w W : World} {m : Ms} {p : Option Addr} {c : Nat} (h : Mem (rowT elemV (.slice p m.b.v.length c) m.b.v :: L) H0 w W) : Mem (sentT (msV m (.slice p m.b.v.length c) (.slice none 0 0) (.slice none 0 0)) m :: L) H0 w W := Mem.addEx (p, c) (Mem.addPr rfl h)
def setAt (t : Int) (x : Pz) : Pz := ⟨x.b, ⟨x.o.seq, x.o.key, x.o.b, t⟩, x.p, x.c⟩
theorem msC_setVals {m : Ms} {sv sr sc : Value} (s : Value) : (msC m sv sr sc).set 17 s = msC m s sr sc := by kernel_rfl
theorem gvnode_any (n : Int) (w : World) : Gives Tryz.prog 40 #[.int .i64 n] w (.bool (nodeE n)) := by
 unfold Gives
 by_cases q0 : 0 ≤ n <;> by_cases q1 : n < 8
 all_goals try (exfalso; omega)
 all_goals first | (have H : Hid (nodeE n = true) := Lib.hid (by simp [nodeE]; omega)) | (have H : Hid (nodeE n = false) := Lib.hid (by simp [nodeE]; omega))
 all_goals
  go_enter Tryz.func40, Tryz.ntmps40
  go_wp2
  all_goals go_ret
  all_goals exact ⟨by rw [H.out]; rfl, Later.ex (by repeat (first | exact ext_refl _ | refine ext_alloc ?_ _ | refine ext_later ?_ _ | refine ext_drew ?_ | refine ext_drewN ?_ _))⟩
theorem gvnode_d (n : Int) : Does Tryz.prog 40 #[.int .i64 n] [] (.bool (nodeE n)) [] := Does.of_any fun w => gvnode_any n w
set_option maxHeartbeats 4000000 in
set_option maxRecDepth 100000 in
theorem gmsg_d (g c : Nat) (G : Gv) (sl : Value) (kd : Int) : Does Tryz.prog 89 #[.pointer (some ⟨g, 0, none⟩), .int .i64 kd] [gvB g c G sl] (msV ⟨kd, G.self, G.dst, 0, 0, 0, G.part, G.epoch, ⟨#[]⟩, noB, noR⟩ (.slice none 0 0) (.slice none 0 0) (.slice none 0 0)) [gvB g c G sl] := by
 intro w H hp
 have HM0 := Lib.hid (mem_refl hp)
 clear hp
 go_enter Tryz.func89, Tryz.ntmps89
 refine wp_seq (wN [(0, 3)] ?_)
 refine wpS_alloc (i := 0) (dd := 4) (z := msV noMs (.slice none 0 0) (.slice none 0 0) (.slice none 0 0)) (cs := (msC (noMs) (.slice none 0 0) (.slice none 0 0) (.slice none 0 0)).toArray) rfl (by rfl) rfl (by kernel_rfl) rfl HM0.out covS_nil rfl ?_
 rintro b3 W2 hm1 -
 have HM4 := Lib.hid hm1
 clear hm1
 simp only [Act.put, List.setIfInBounds_toArray, List.set_cons_succ, List.set_cons_zero]
 refine wZ (wp_seq ?_)
 refine wp_region_M (fun k => k ∈ ([] : List Nat)) [(0, 1), (1, 1), (2, 1), (3, 1), (4, 1), (5, 1), (6, 1), (7, 1), (8, 1), (9, 1), (10, 1), (11, 1), (12, 1), (13, 1), (14, 1), (15, 1), (16, 1), (17, 1), (18, 3)] (by kernel_rfl) (by kernel_rfl) HM4.out ?_
 intro W5 hm6
 have HM7 := Lib.hid hm6
 clear hm6
 have Cbx := Mem.cell HM7.out 1 rfl
 refine wT [0, 1, 2, 3, 4, 5, 6, 7, 8, 9, 10, 11, 12, 13, 14, 15, 16] ?_
 clear Cbx
 refine wR 17 (v := msV ⟨kd, G.self, G.dst, 0, 0, 0, G.part, G.epoch, ⟨#[]⟩, noB, noR⟩ (.slice none 0 0) (.slice none 0 0) (.slice none 0 0)) (by kernel_rfl) ?_
 refine wXkh (hone := (msC_one _ _ _ _ _ _ _ _ _)) 18 [_] (msC (⟨kd, G.self, G.dst, 0, 0, 0, G.part, G.epoch, ⟨#[]⟩, noB, noR⟩) (.slice none 0 0) (.slice none 0 0) (.slice none 0 0)) HM7 0 fun W9 HM10 => ?_
 refine wZ (wp_ret ?_)
 refine ret_cell rfl HM10.out 0 rfl rfl Tryz.underlying52 rfl (by kernel_rfl) rfl ?_
 exact does_ret (Mem.only (M := [_]) HM10.out [1] rfl) rfl rfl
theorem mine_ways (G : Gv) (kd : Int) (m : Ms) : (¬ m.kind = kd) ∨ (m.kind = kd ∧ ¬ m.frm = G.dst) ∨ (m.kind = kd ∧ m.frm = G.dst ∧ ¬ m.dst = G.self) ∨ (m.kind = kd ∧ m.frm = G.dst ∧ m.dst = G.self ∧ ¬ m.part = G.part) ∨ (m.kind = kd ∧ m.frm = G.dst ∧ m.dst = G.self ∧ m.part = G.part ∧ ¬ m.epoch = G.epoch) ∨ (m.kind = kd ∧ m.frm = G.dst ∧ m.dst = G.self ∧ m.part = G.part ∧ m.epoch = G.epoch) := by
 refine (Classical.em (m.kind = kd)).elim (fun h0 => ?_) (fun h => .inl h)
 refine .inr ?_
 refine (Classical.em (m.frm = G.dst)).elim (fun h1 => ?_) (fun h => .inl ⟨h0, h⟩)
 refine .inr ?_
 refine (Classical.em (m.dst = G.self)).elim (fun h2 => ?_) (fun h => .inl ⟨h0, h1, h⟩)
 refine .inr ?_
 refine (Classical.em (m.part = G.part)).elim (fun h3 => ?_) (fun h => .inl ⟨h0, h1, h2, h⟩)
 refine .inr ?_
 refine (Classical.em (m.epoch = G.epoch)).elim (fun h4 => ?_) (fun h => .inl ⟨h0, h1, h2, h3, h⟩)
 refine .inr ?_
 exact ⟨h0, h1, h2, h3, h4⟩
set_option maxHeartbeats 4000000 in
set_option maxRecDepth 100000 in
theorem gisans_d (g c : Nat) (G : Gv) (sl : Value) (kd : Int) (m : Ms) (vp rp cp : Option Addr) (vn vc rn rc cn cc : Nat) : Does Tryz.prog 54 #[.pointer (some ⟨g, 0, none⟩), msV m (.slice vp vn vc) (.slice rp rn rc) (.slice cp cn cc), .int .i64 kd] [gvB g c G sl] (.bool (mineG G kd m)) [gvB g c G sl] := by
 intro w H hp
 have HM0 := Lib.hid (mem_refl hp)
 clear hp
 go_enter Tryz.func54, Tryz.ntmps54
 refine wp_seq (wN [(0, 3), (1, 1)] ?_)
 refine wBh 0 HM0 fun b3 W2 HM4 => ?_
 refine wT [1] ?_
 refine wZ (wp_seq ?_)
 rcases mine_ways G kd m with h0 | ⟨h0, h1⟩ | ⟨h0, h1, h2⟩ | ⟨h0, h1, h2, h3⟩ | ⟨h0, h1, h2, h3, h4⟩ | ⟨h0, h1, h2, h3, h4⟩
 ·have g0 : (m.kind == kd) = false := beq_eq_false_iff_ne.2 h0
  have hmn : Hid (mineG G kd m = false) := Lib.hid (decide_eq_false fun h => h0 h.1)
  clear h0
  refine wp_region_M (fun k => k ∈ ([] : List Nat)) [(0, 1), (1, 1), (2, 1), (3, 1), (4, 1), (5, 1), (6, 1), (7, 1), (8, 1), (9, 1), (10, 1), (11, 1), (12, 1), (13, 1), (14, 1), (15, 1), (16, 1), (17, 1), (18, 1), (19, 1), (20, 1), (21, 1), (22, 1), (23, 1), (24, 1), (25, 1), (26, 1), (27, 1), (28, 1), (29, 1), (30, 1), (31, 1), (32, 1), (33, 1), (34, 1), (35, 1), (36, 1), (37, 1), (38, 1), (39, 1), (40, 1)] (by kernel_rfl) (by kernel_rfl) HM4.out ?_
  intro W5 hm6
  have HM7 := Lib.hid hm6
  clear hm6
  refine wT [0] ?_
  refine wM 1 (.int .i64 m.kind) (HM7.out.part1 0 rfl msC_kind) Tryz.underlying3 ?_
  refine wT [2, 3, 4, 5] ?_
  refine wK 6 ?_
  have Cbx := Mem.cell HM7.out 1 rfl
  refine wT [7, 8, 9, 10, 11, 12, 13, 14] ?_
  clear Cbx
  refine wK 15 ?_
  have Cbx := Mem.cell HM7.out 1 rfl
  refine wT [16, 17, 18, 19, 20, 21, 22, 23] ?_
  clear Cbx
  refine wK 24 ?_
  have Cbx := Mem.cell HM7.out 1 rfl
  refine wT [25, 26, 27, 28, 29, 30, 31, 32] ?_
  clear Cbx
  refine wK 33 ?_
  have Cbx := Mem.cell HM7.out 1 rfl
  refine wT [34, 35, 36, 37, 38, 39, 40] ?_
  clear Cbx
  refine wZ (wp_ret (bodyPost_ret (results_tmp rfl _ _ _) rfl ?_))
  rw [hmn.out]
  exact does_ret (Mem.only (M := [_]) HM7.out [1] rfl) rfl rfl
 ·have g0 : (m.kind == kd) = true := beq_iff_eq.2 h0
  have g1 : (m.frm == G.dst) = false := beq_eq_false_iff_ne.2 h1
  have hmn : Hid (mineG G kd m = false) := Lib.hid (decide_eq_false fun h => h1 h.2.1)
  clear h0 h1
  refine wp_region_M (fun k => k ∈ ([] : List Nat)) [(0, 1), (1, 1), (2, 1), (3, 1), (4, 1), (5, 1), (6, 1), (7, 1), (8, 1), (9, 1), (10, 1), (11, 1), (12, 1), (13, 1), (14, 1), (15, 1), (16, 1), (17, 1), (18, 1), (19, 1), (20, 1), (21, 1), (22, 1), (23, 1), (24, 1), (25, 1), (26, 1), (27, 1), (28, 1), (29, 1), (30, 1), (31, 1), (32, 1), (33, 1), (34, 1), (35, 1), (36, 1), (37, 1), (38, 1), (39, 1), (40, 1)] (by kernel_rfl) (by kernel_rfl) HM4.out ?_
  intro W8 hm9
  have HM10 := Lib.hid hm9
  clear hm9
  refine wT [0] ?_
  refine wM 1 (.int .i64 m.kind) (HM10.out.part1 0 rfl msC_kind) Tryz.underlying3 ?_
  refine wT [2, 3, 4, 5] ?_
  refine wM 6 (.int .i64 m.frm) (HM10.out.part1 0 rfl msC_frm) Tryz.underlying3 ?_
  have Cbx := Mem.cell HM10.out 1 rfl
  refine wT [7, 8, 9, 10, 11, 12, 13, 14] ?_
  clear Cbx
  refine wK 15 ?_
  have Cbx := Mem.cell HM10.out 1 rfl
  refine wT [16, 17, 18, 19, 20, 21, 22, 23] ?_
  clear Cbx
  refine wK 24 ?_
  have Cbx := Mem.cell HM10.out 1 rfl
  refine wT [25, 26, 27, 28, 29, 30, 31, 32] ?_
  clear Cbx
  refine wK 33 ?_
  have Cbx := Mem.cell HM10.out 1 rfl
  refine wT [34, 35, 36, 37, 38, 39, 40] ?_
  clear Cbx
  refine wZ (wp_ret (bodyPost_ret (results_tmp rfl _ _ _) rfl ?_))
  rw [hmn.out]
  exact does_ret (Mem.only (M := [_]) HM10.out [1] rfl) rfl rfl
 ·have g0 : (m.kind == kd) = true := beq_iff_eq.2 h0
  have g1 : (m.frm == G.dst) = true := beq_iff_eq.2 h1
  have g2 : (m.dst == G.self) = false := beq_eq_false_iff_ne.2 h2
  have hmn : Hid (mineG G kd m = false) := Lib.hid (decide_eq_false fun h => h2 h.2.2.1)
  clear h0 h1 h2
  refine wp_region_M (fun k => k ∈ ([] : List Nat)) [(0, 1), (1, 1), (2, 1), (3, 1), (4, 1), (5, 1), (6, 1), (7, 1), (8, 1), (9, 1), (10, 1), (11, 1), (12, 1), (13, 1), (14, 1), (15, 1), (16, 1), (17, 1), (18, 1), (19, 1), (20, 1), (21, 1), (22, 1), (23, 1), (24, 1), (25, 1), (26, 1), (27, 1), (28, 1), (29, 1), (30, 1), (31, 1), (32, 1), (33, 1), (34, 1), (35, 1), (36, 1), (37, 1), (38, 1), (39, 1), (40, 1)] (by kernel_rfl) (by kernel_rfl) HM4.out ?_
  intro W11 hm12
  have HM13 := Lib.hid hm12
  clear hm12
  refine wT [0] ?_
  refine wM 1 (.int .i64 m.kind) (HM13.out.part1 0 rfl msC_kind) Tryz.underlying3 ?_
  refine wT [2, 3, 4, 5] ?_
  refine wM 6 (.int .i64 m.frm) (HM13.out.part1 0 rfl msC_frm) Tryz.underlying3 ?_
  have Cbx := Mem.cell HM13.out 1 rfl
  refine wT [7, 8, 9, 10, 11, 12, 13, 14] ?_
  clear Cbx
  refine wM 15 (.int .i64 m.dst) (HM13.out.part1 0 rfl msC_dst) Tryz.underlying3 ?_
  have Cbx := Mem.cell HM13.out 1 rfl
  refine wT [16, 17, 18, 19, 20, 21, 22, 23] ?_
  clear Cbx
  refine wK 24 ?_
  have Cbx := Mem.cell HM13.out 1 rfl
  refine wT [25, 26, 27, 28, 29, 30, 31, 32] ?_
  clear Cbx
  refine wK 33 ?_
  have Cbx := Mem.cell HM13.out 1 rfl
  refine wT [34, 35, 36, 37, 38, 39, 40] ?_
  clear Cbx
  refine wZ (wp_ret (bodyPost_ret (results_tmp rfl _ _ _) rfl ?_))
  rw [hmn.out]
  exact does_ret (Mem.only (M := [_]) HM13.out [1] rfl) rfl rfl
 ·have g0 : (m.kind == kd) = true := beq_iff_eq.2 h0
  have g1 : (m.frm == G.dst) = true := beq_iff_eq.2 h1
  have g2 : (m.dst == G.self) = true := beq_iff_eq.2 h2
  have g3 : (m.part == G.part) = false := beq_eq_false_iff_ne.2 h3
  have hmn : Hid (mineG G kd m = false) := Lib.hid (decide_eq_false fun h => h3 h.2.2.2.1)
  clear h0 h1 h2 h3
  refine wp_region_M (fun k => k ∈ ([] : List Nat)) [(0, 1), (1, 1), (2, 1), (3, 1), (4, 1), (5, 1), (6, 1), (7, 1), (8, 1), (9, 1), (10, 1), (11, 1), (12, 1), (13, 1), (14, 1), (15, 1), (16, 1), (17, 1), (18, 1), (19, 1), (20, 1), (21, 1), (22, 1), (23, 1), (24, 1), (25, 1), (26, 1), (27, 1), (28, 1), (29, 1), (30, 1), (31, 1), (32, 1), (33, 1), (34, 1), (35, 1), (36, 1), (37, 1), (38, 1), (39, 1), (40, 1)] (by kernel_rfl) (by kernel_rfl) HM4.out ?_
  intro W14 hm15
  have HM16 := Lib.hid hm15
  clear hm15
  refine wT [0] ?_
  refine wM 1 (.int .i64 m.kind) (HM16.out.part1 0 rfl msC_kind) Tryz.underlying3 ?_
  refine wT [2, 3, 4, 5] ?_
  refine wM 6 (.int .i64 m.frm) (HM16.out.part1 0 rfl msC_frm) Tryz.underlying3 ?_
  have Cbx := Mem.cell HM16.out 1 rfl
  refine wT [7, 8, 9, 10, 11, 12, 13, 14] ?_
  clear Cbx
  refine wM 15 (.int .i64 m.dst) (HM16.out.part1 0 rfl msC_dst) Tryz.underlying3 ?_
  have Cbx := Mem.cell HM16.out 1 rfl
  refine wT [16, 17, 18, 19, 20, 21, 22, 23] ?_
  clear Cbx
  refine wM 24 (.int .i64 m.part) (HM16.out.part1 0 rfl msC_part) Tryz.underlying3 ?_
  have Cbx := Mem.cell HM16.out 1 rfl
  refine wT [25, 26, 27, 28, 29, 30, 31, 32] ?_
  clear Cbx
  refine wK 33 ?_
  have Cbx := Mem.cell HM16.out 1 rfl
  refine wT [34, 35, 36, 37, 38, 39, 40] ?_
  clear Cbx
  refine wZ (wp_ret (bodyPost_ret (results_tmp rfl _ _ _) rfl ?_))
  rw [hmn.out]
  exact does_ret (Mem.only (M := [_]) HM16.out [1] rfl) rfl rfl
 ·have g0 : (m.kind == kd) = true := beq_iff_eq.2 h0
  have g1 : (m.frm == G.dst) = true := beq_iff_eq.2 h1
  have g2 : (m.dst == G.self) = true := beq_iff_eq.2 h2
  have g3 : (m.part == G.part) = true := beq_iff_eq.2 h3
  have g4 : (m.epoch == G.epoch) = false := beq_eq_false_iff_ne.2 h4
  have hmn : Hid (mineG G kd m = false) := Lib.hid (decide_eq_false fun h => h4 h.2.2.2.2)
  clear h0 h1 h2 h3 h4
  refine wp_region_M (fun k => k ∈ ([] : List Nat)) [(0, 1), (1, 1), (2, 1), (3, 1), (4, 1), (5, 1), (6, 1), (7, 1), (8, 1), (9, 1), (10, 1), (11, 1), (12, 1), (13, 1), (14, 1), (15, 1), (16, 1), (17, 1), (18, 1), (19, 1), (20, 1), (21, 1), (22, 1), (23, 1), (24, 1), (25, 1), (26, 1), (27, 1), (28, 1), (29, 1), (30, 1), (31, 1), (32, 1), (33, 1), (34, 1), (35, 1), (36, 1), (37, 1), (38, 1), (39, 1), (40, 1)] (by kernel_rfl) (by kernel_rfl) HM4.out ?_
  intro W17 hm18
  have HM19 := Lib.hid hm18
  clear hm18
  refine wT [0] ?_
  refine wM 1 (.int .i64 m.kind) (HM19.out.part1 0 rfl msC_kind) Tryz.underlying3 ?_
  refine wT [2, 3, 4, 5] ?_
  refine wM 6 (.int .i64 m.frm) (HM19.out.part1 0 rfl msC_frm) Tryz.underlying3 ?_
  have Cbx := Mem.cell HM19.out 1 rfl
  refine wT [7, 8, 9, 10, 11, 12, 13, 14] ?_
  clear Cbx
  refine wM 15 (.int .i64 m.dst) (HM19.out.part1 0 rfl msC_dst) Tryz.underlying3 ?_
  have Cbx := Mem.cell HM19.out 1 rfl
  refine wT [16, 17, 18, 19, 20, 21, 22, 23] ?_
  clear Cbx
  refine wM 24 (.int .i64 m.part) (HM19.out.part1 0 rfl msC_part) Tryz.underlying3 ?_
  have Cbx := Mem.cell HM19.out 1 rfl
  refine wT [25, 26, 27, 28, 29, 30, 31, 32] ?_
  clear Cbx
  refine wM 33 (.int .i64 m.epoch) (HM19.out.part1 0 rfl msC_epoch) Tryz.underlying3 ?_
  have Cbx := Mem.cell HM19.out 1 rfl
  refine wT [34, 35, 36, 37, 38, 39, 40] ?_
  clear Cbx
  refine wZ (wp_ret (bodyPost_ret (results_tmp rfl _ _ _) rfl ?_))
  rw [hmn.out]
  exact does_ret (Mem.only (M := [_]) HM19.out [1] rfl) rfl rfl
 ·have g0 : (m.kind == kd) = true := beq_iff_eq.2 h0
  have g1 : (m.frm == G.dst) = true := beq_iff_eq.2 h1
  have g2 : (m.dst == G.self) = true := beq_iff_eq.2 h2
  have g3 : (m.part == G.part) = true := beq_iff_eq.2 h3
  have g4 : (m.epoch == G.epoch) = true := beq_iff_eq.2 h4
  have hmn : Hid (mineG G kd m = true) := Lib.hid (decide_eq_true ⟨h0, h1, h2, h3, h4⟩)
  clear h0 h1 h2 h3 h4
  refine wp_region_M (fun k => k ∈ ([] : List Nat)) [(0, 1), (1, 1), (2, 1), (3, 1), (4, 1), (5, 1), (6, 1), (7, 1), (8, 1), (9, 1), (10, 1), (11, 1), (12, 1), (13, 1), (14, 1), (15, 1), (16, 1), (17, 1), (18, 1), (19, 1), (20, 1), (21, 1), (22, 1), (23, 1), (24, 1), (25, 1), (26, 1), (27, 1), (28, 1), (29, 1), (30, 1), (31, 1), (32, 1), (33, 1), (34, 1), (35, 1), (36, 1), (37, 1), (38, 1), (39, 1), (40, 1)] (by kernel_rfl) (by kernel_rfl) HM4.out ?_
  intro W20 hm21
  have HM22 := Lib.hid hm21
  clear hm21
  refine wT [0] ?_
  refine wM 1 (.int .i64 m.kind) (HM22.out.part1 0 rfl msC_kind) Tryz.underlying3 ?_
  refine wT [2, 3, 4, 5] ?_
  refine wM 6 (.int .i64 m.frm) (HM22.out.part1 0 rfl msC_frm) Tryz.underlying3 ?_
  have Cbx := Mem.cell HM22.out 1 rfl
  refine wT [7, 8, 9, 10, 11, 12, 13, 14] ?_
  clear Cbx
  refine wM 15 (.int .i64 m.dst) (HM22.out.part1 0 rfl msC_dst) Tryz.underlying3 ?_
  have Cbx := Mem.cell HM22.out 1 rfl
  refine wT [16, 17, 18, 19, 20, 21, 22, 23] ?_
  clear Cbx
  refine wM 24 (.int .i64 m.part) (HM22.out.part1 0 rfl msC_part) Tryz.underlying3 ?_
  have Cbx := Mem.cell HM22.out 1 rfl
  refine wT [25, 26, 27, 28, 29, 30, 31, 32] ?_
  clear Cbx
  refine wM 33 (.int .i64 m.epoch) (HM22.out.part1 0 rfl msC_epoch) Tryz.underlying3 ?_
  have Cbx := Mem.cell HM22.out 1 rfl
  refine wT [34, 35, 36, 37, 38, 39, 40] ?_
  clear Cbx
  refine wZ (wp_ret (bodyPost_ret (results_tmp rfl _ _ _) rfl ?_))
  rw [hmn.out]
  exact does_ret (Mem.only (M := [_]) HM22.out [1] rfl) rfl rfl
set_option maxHeartbeats 4000000 in
set_option maxRecDepth 100000 in
theorem gisdone_d (g c dv dl : Nat) (G : Gv) (p : Option Addr) (n q : Nat) (hn : G.out.length = n) (hF : FdOk G.F) (S : Vt) (hS : VtOk S) (hl : S.b.length ≤ 3000) : Does Tryz.prog 59 #[.pointer (some ⟨g, 0, none⟩), .pointer (some ⟨dv, 0, none⟩)] [gvB g c G (.slice p n q), fdT c G.F, vtT dv dl S] (.bool (overG G S)) [gvB g c G (.slice p n q), fdT c G.F, vtT dv dl S] := by
 intro w H hp
 have HM0 := Lib.hid (mem_refl hp)
 clear hp
 go_enter Tryz.func59, Tryz.ntmps59
 refine wp_seq (wQ ?_)
 refine wp_seq ?_
 rcases n with _ | n
 ·have ho : G.out = [] := List.length_eq_zero_iff.1 hn
  obtain ⟨b, hb'⟩ : ∃ b, overF G.F (keysV S G.F.part) = b := ⟨_, rfl⟩
  have hov := Lib.hid hb'
  have hog : Hid (overG G S = b) := Lib.hid (by unfold overG; rw [ho, hb']; rfl)
  clear hb' ho hn
  refine wN [(0, 1), (1, 1), (2, 1), (3, 1), (4, 1), (5, 1), (6, 1), (7, 1), (8, 1), (9, 1), (10, 1), (11, 1), (12, 3), (13, 1), (14, 1)] ?_
  have Cbx := Mem.cell HM0.out 0 rfl
  refine wT [0, 1, 2, 3, 4, 5, 6, 7, 8, 9, 10, 11] ?_
  clear Cbx
  refine wD2 12 [_] [_, _, _] Tryz.call98 (fover_d c dv dl G.F hF S hS hl) HM0 [1, 1] fun W2 hm1 => ?_
  rw [hov.out]
  have HM3 := Lib.hid hm1
  clear hm1
  refine wT [13, 14] ?_
  refine wZ (wp_ret (bodyPost_ret (results_tmp rfl _ _ _) rfl ?_))
  rw [hog.out]
  exact does_ret (Mem.only (M := [_, _, _]) HM3.out [2, 0, 0] rfl) rfl rfl
 ·have g1 : (((n + 1 : Nat) : Int) == (0 : Int)) = false := beq_eq_false_iff_ne.2 (by omega)
  have g2 : (((n : Int) + 1) == (0 : Int)) = false := beq_eq_false_iff_ne.2 (by omega)
  have hog : Hid (overG G S = false) := Lib.hid (over_out (by omega))
  clear hn
  refine wN [(0, 1), (1, 1), (2, 1), (3, 1), (4, 1), (5, 1), (6, 1), (7, 1), (8, 1), (9, 1), (10, 1), (11, 1), (12, 3), (13, 1), (14, 1)] ?_
  have Cbx := Mem.cell HM0.out 0 rfl
  refine wT [0, 1, 2, 3, 4, 5, 6, 7, 8, 9, 10, 11] ?_
  clear Cbx
  refine wK 12 ?_
  refine wT [13, 14] ?_
  refine wZ (wp_ret (bodyPost_ret (results_tmp rfl _ _ _) rfl ?_))
  rw [hog.out]
  exact does_ret (Mem.only (M := [_, _, _]) HM0.out [0, 0, 0] rfl) rfl rfl
end Go.Proofs.YtcchkkdbagpgjaaGreat
