/- The reference's teller: New. -/
import Derived.Test.YtnkchmafofpimaaGsB
namespace Go.Proofs.Ytnkchmafofpimaa
open Go Go.RowKit Go.BigFrame

theorem Mem.toOne {B : At} {L : List At} {H0 : Nat → Prop} {w W : World} (h : Mem (B :: L) H0 w W) : Mem (listT [B] :: L) H0 w W := SEnd.mono h fun _ h => star_mono (fun _ h => star_comm (starl_emp h)) (fun _ h => h) h
theorem refO_new {b : Nat} {self : Int} {L : List At} {H0 : Nat → Prop} {w W : World} (h : Mem (boxT b (.cells #[.int .i64 self, .slice none 0 0] 71 (0, 0)) :: L) H0 w W) : Mem (roT b self [] :: L) H0 w W :=
  SEnd.mono h fun _ h => star_mono (fun _ ⟨h1, h2⟩ => ⟨by simp, _, h1, .inl ⟨rfl, _, _, rfl⟩, fun k => by rw [h2 k]; simp⟩) (fun _ h => h) h
theorem knows_new (R : At) (self : Int) : KnowsOf R (newT self).k (fun _ => .slice none 0 0) := fun _ => ⟨srcNil R, Nat.zero_le _⟩
/-- A teller somewhere, pointed to by u. -/
def someTell (u : Value) (S : Tl) (B : At) : At := exT fun d : Nat => [prT (u = .pointer (some ⟨d, 0, none⟩)), tellT d S B]
set_option maxHeartbeats 4000000 in
set_option maxRecDepth 100000 in
theorem rnew_d (self : Int) (hs : nodeE self = true) (B : At) : DoesU Try.prog 11 #[.int .i64 self] [B] (fun u => [someTell u (newT self) B]) := by
  intro w H hp
  have HM0 := Lib.hid (mem_refl hp)
  clear hp
  go_enter Try.func11, Try.ntmps11
  refine wp_seq ?_
  refine wp_region_N [(0, 1)] (by kernel_rfl) ?_
  refine wpS_this [0] rfl (by kernel_rfl) (by simp only [pickL, nthL, List.cons_append, List.nil_append]; rfl) ?_
  repeat (go_big_quiet_step (fail))
  refine wpQuiet_nil ?_
  refine wpS_nil ?_
  refine then_normal ?_
  refine wp_seq ?_
  refine wp_seq ?_
  have gn := hs
  refine wp_region_N [(0, 1), (1, 3), (2, 1)] (by kernel_rfl) ?_
  refine wpS_this [0] rfl (by kernel_rfl) (by simp only [pickL, nthL, List.cons_append, List.nil_append]; rfl) ?_
  repeat (go_big_quiet_step (fail))
  refine wpQuiet_nil ?_
  refine wpS_does1 (i := 1) (d := some 4) (rem := [_]) (out := [_]) rfl (by rfl) rfl Try.call17 (rnode_d _) rfl HM0.out [] rfl covS_nil rfl rfl ?_
  rintro W2 hm1 -
  have HM3 := Lib.hid hm1
  clear hm1
  simp only [Act.put, List.setIfInBounds_toArray, List.set_cons_succ, List.set_cons_zero]
  refine wpS_this [2] rfl (by kernel_rfl) (by simp only [pickL, nthL, List.cons_append, List.nil_append]; rfl) ?_
  repeat (go_big_quiet_step (fail))
  refine wpQuiet_nil ?_
  refine wpS_nil ?_
  refine then_normal ?_
  refine wp_cond_false rfl ?_
  refine wp_skip ?_
  refine then_normal ?_
  refine wp_seq ?_
  refine wp_region_N [(0, 1), (1, 1), (2, 1), (3, 3), (4, 1), (5, 3), (6, 1)] (by kernel_rfl) ?_
  refine wpS_this [0, 1, 2] rfl (by kernel_rfl) (by simp only [pickL, nthL, List.cons_append, List.nil_append]; rfl) ?_
  repeat (go_big_quiet_step (fail))
  refine wpQuiet_nil ?_
  refine wpS_boxA (i := 3) (dd := 9) rfl (by rfl) rfl rfl HM3.out covS_nil rfl ?_
  rintro b6 W5 hm4 -
  have HM7 := Lib.hid hm4
  clear hm4
  simp only [Act.put, List.setIfInBounds_toArray, List.set_cons_succ, List.set_cons_zero]
  refine wpS_read (i := 4) (d := some 10) (v := .agg (tlC self b6 (fun _ => false) (fun _ => noR) (fun _ => .slice none 0 0)).toArray) rfl (by rfl) (by kernel_rfl) rfl ?_
  simp only [Act.put, List.setIfInBounds_toArray, List.set_cons_succ, List.set_cons_zero]
  refine wpS_boxA (i := 5) (dd := 11) rfl (by rfl) rfl rfl HM7.out covS_nil rfl ?_
  rintro b10 W9 hm8 -
  have HM11 := Lib.hid hm8
  clear hm8
  simp only [Act.put, List.setIfInBounds_toArray, List.set_cons_succ, List.set_cons_zero]
  refine wpS_this [6] rfl (by kernel_rfl) (by simp only [pickL, nthL, List.cons_append, List.nil_append]; rfl) ?_
  repeat (go_big_quiet_step (fail))
  refine wpQuiet_nil ?_
  refine wpS_nil ?_
  refine then_normal ?_
  refine wp_ret ?_
  refine bodyPost_ret (results_tmp rfl _ _ _) rfl ?_
  exact doesU_ret (post := fun u => [someTell u (newT self) B]) (Mem.addEx (f := fun d : Nat => [prT (Value.pointer (some ⟨b10, 0, none⟩) = Value.pointer (some ⟨d, 0, none⟩)), tellT d (newT self) B]) b10 (Mem.addPr rfl (Mem.toTell (po := b6) (z := fun _ => .slice none 0 0) (l := []) (S := newT self) (knows_new _ self) (Mem.only (M := [_, _, _]) (refO_new (Mem.only (M := [_, _, _]) (Mem.toOne (Mem.only (M := [_, _, _]) HM11.out [2, 0, 0] rfl)) [2, 1, 0] rfl)) [1, 0, 0] rfl)))) rfl

set_option maxHeartbeats 4000000 in
set_option maxRecDepth 100000 in
theorem rnil_d (self : Int) (hs : nodeE self = false) : Does Try.prog 11 #[.int .i64 self] [] (.pointer none) [] := by
  intro w H hp
  have HM0 := Lib.hid (mem_refl hp)
  clear hp
  go_enter Try.func11, Try.ntmps11
  refine wp_seq ?_
  refine wp_region_N [(0, 1)] (by kernel_rfl) ?_
  refine wpS_this [0] rfl (by kernel_rfl) (by simp only [pickL, nthL, List.cons_append, List.nil_append]; rfl) ?_
  repeat (go_big_quiet_step (fail))
  refine wpQuiet_nil ?_
  refine wpS_nil ?_
  refine then_normal ?_
  refine wp_seq ?_
  refine wp_seq ?_
  have gn := hs
  refine wp_region_N [(0, 1), (1, 3), (2, 1)] (by kernel_rfl) ?_
  refine wpS_this [0] rfl (by kernel_rfl) (by simp only [pickL, nthL, List.cons_append, List.nil_append]; rfl) ?_
  repeat (go_big_quiet_step (fail))
  refine wpQuiet_nil ?_
  refine wpS_does1 (i := 1) (d := some 4) (rem := []) (out := []) rfl (by rfl) rfl Try.call17 (rnode_d _) rfl HM0.out [] rfl covS_nil rfl rfl ?_
  rintro W2 hm1 -
  have HM3 := Lib.hid hm1
  clear hm1
  simp only [Act.put, List.setIfInBounds_toArray, List.set_cons_succ, List.set_cons_zero]
  refine wpS_this [2] rfl (by kernel_rfl) (by simp only [pickL, nthL, List.cons_append, List.nil_append]; rfl) ?_
  repeat (go_big_quiet_step (fail))
  refine wpQuiet_nil ?_
  refine wpS_nil ?_
  refine then_normal ?_
  refine wp_cond_true rfl ?_
  refine wp_seq ?_
  refine wp_region_N [(0, 1)] (by kernel_rfl) ?_
  refine wpS_this [0] rfl (by kernel_rfl) (by simp only [pickL, nthL, List.cons_append, List.nil_append]; rfl) ?_
  repeat (go_big_quiet_step (fail))
  refine wpQuiet_nil ?_
  refine wpS_nil ?_
  refine then_normal ?_
  refine wp_ret ?_
  refine then_ret ?_
  refine bodyPost_ret (results_tmp rfl _ _ _) rfl ?_
  exact does_ret (Mem.only (M := []) HM3.out [] rfl) rfl rfl

end Go.Proofs.Ytnkchmafofpimaa
