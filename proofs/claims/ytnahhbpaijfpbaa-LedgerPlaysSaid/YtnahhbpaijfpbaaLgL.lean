/- Ledgers: the reference's ledger. -/
import Derived.Test.YtnahhbpaijfpbaaLgS
namespace Go.Proofs.Ytnahhbpaijfpbaa
open Go Go.RowKit Go.BigFrame

/-- The reference's ledger at d: its deeds lie in a row of its own. -/
def rfT (d : Nat) (S : Lg) (ys : List Dx) : At := exT fun s : Option Addr × Nat => [prT (ys.map (fun y => y.d) = S.l), boxT d (.cells #[.int .i64 (S.room : Int), .int .i64 (S.sure : Int), .slice s.1 ys.length s.2] 54 (0, 0)), rowT elemDx (.slice s.1 ys.length s.2) ys]
def rfN (u : Value) (S : Lg) : At := exT fun d : Nat => [prT (u = .pointer (some ⟨d, 0, none⟩)), rfT d S []]
section
variable {L : List At} {H0 : Nat → Prop} {w W : World} {d : Nat} {S : Lg} {ys : List Dx}
theorem Mem.rf (h : Mem (rfT d S ys :: L) H0 w W) : ∃ p c, ys.map (fun y => y.d) = S.l ∧ Mem (boxT d (.cells #[.int .i64 (S.room : Int), .int .i64 (S.sure : Int), .slice p ys.length c] 54 (0, 0)) :: rowT elemDx (.slice p ys.length c) ys :: L) H0 w W := by
  obtain ⟨s, h⟩ := Mem.ex h
  obtain ⟨hu, h⟩ := Mem.pr h
  exact ⟨s.1, s.2, hu, h⟩
theorem Mem.toRf {p : Option Addr} {c n : Nat} {a b : Int} (hy : ys.map (fun y => y.d) = S.l) (ha : a = (S.room : Int)) (hb : b = (S.sure : Int)) (hn : n = ys.length) (h : Mem (boxT d (.cells #[.int .i64 a, .int .i64 b, .slice p n c] 54 (0, 0)) :: rowT elemDx (.slice p n c) ys :: L) H0 w W) : Mem (rfT d S ys :: L) H0 w W := by
  subst ha hb hn
  exact Mem.addEx (p, c) (Mem.addPr hy h)
theorem Mem.rfN {u : Value} (h : Mem (rfN u S :: L) H0 w W) : ∃ d, u = .pointer (some ⟨d, 0, none⟩) ∧ Mem (rfT d S [] :: L) H0 w W := by
  obtain ⟨s, h⟩ := Mem.ex h
  obtain ⟨hu, h⟩ := Mem.pr h
  exact ⟨s, hu, h⟩
end
theorem write_no {S : Lg} {d : Dd} (h : mayD d = false) : writeL S d = (S, 1) := if_neg (by rw [h]; simp)
theorem write_full {S : Lg} {d : Dd} (h : mayD d = true) (h2 : S.room ≤ S.l.length) : writeL S d = (S, 5) := (if_pos h).trans (if_pos h2)
theorem write_ok {S : Lg} {d : Dd} (h : mayD d = true) (h2 : ¬ S.room ≤ S.l.length) : writeL S d = (⟨S.room, S.sure, S.l ++ [d]⟩, 0) := (if_pos h).trans (if_neg h2)
theorem new_cap (room : Int) : ((newL room).room : Int) = max 0 (min room 3000) := by
  show (((max 0 (min room 3000)).toNat : Nat) : Int) = _
  omega
set_option maxHeartbeats 4000000 in
set_option maxRecDepth 100000 in
theorem rwrite_d (R : At) (d : Nat) (S : Lg) (ys : List Dx) (x : Dx) (hx : DxR R x) (hS : LgOk S) : Does Try.prog 21 #[.pointer (some ⟨d, 0, none⟩), ddV x.d (.slice x.vp x.vn x.vc) (.slice x.rp x.rn x.rc)] [rfT d S ys, R] (.int .i64 (writeL S x.d).2) [rfT d (writeL S x.d).1 (if (writeL S x.d).2 = 0 then ys ++ [x] else ys), R] := by
  intro w H hp
  have HM0 := Lib.hid (mem_refl hp)
  clear hp
  obtain ⟨p, c, hys', HM1'⟩ := Mem.rf HM0.out
  clear HM0
  have HM0 := Lib.hid HM1'
  clear HM1'
  have hys := Lib.hid hys'
  have hyl : Hid (ys.length = S.l.length) := Lib.hid (by rw [← hys', List.length_map])
  clear hys'
  have hok1 : ys.length ≤ S.room := by rw [hyl.out]; exact hS.len
  have hok2 : S.sure ≤ ys.length := by rw [hyl.out]; exact hS.sure
  have hok3 := hS.room
  go_enter Try.func21, Try.ntmps21
  refine wp_seq ?_
  refine wp_region_N [(0, 3), (1, 1)] (by kernel_rfl) ?_
  refine wpS_boxA (i := 0) (dd := 3) rfl (by rfl) rfl rfl HM0.out covS_nil rfl ?_
  rintro b3 W2 hm1 -
  have HM4 := Lib.hid hm1
  clear hm1
  simp only [Act.put, List.setIfInBounds_toArray, List.set_cons_succ, List.set_cons_zero]
  refine wpS_this [1] rfl (by kernel_rfl) (by simp only [pickL, nthL, List.cons_append, List.nil_append]; rfl) ?_
  repeat (go_big_quiet_step (fail))
  refine wpQuiet_nil ?_
  refine wpS_nil ?_
  refine then_normal ?_
  refine wp_seq ?_
  refine wp_seq ?_
  cases hm' : mayD x.d
  · have hm := Lib.hid hm'
    have hw := Lib.hid (write_no (S := S) hm')
    clear hm'
    refine wp_region_N [(0, 1), (1, 3), (2, 1)] (by kernel_rfl) ?_
    refine wpS_loadA (i := 0) (d := some 5) (cells := ddC (x.d) (.slice x.vp x.vn x.vc) (.slice x.rp x.rn x.rc)) rfl (by rfl) rfl rfl (HM4.out.part 0 rfl (ddC_all)) Try.underlying43 rfl (by kernel_rfl) rfl ?_
    simp only [Act.put, List.setIfInBounds_toArray, List.set_cons_succ, List.set_cons_zero]
    refine wpS_does1 (i := 1) (d := some 6) (rem := [_, _, _]) (out := [_, _, _, _]) rfl (by rfl) rfl Try.call13 (rmayD_d R _ _ x.d hx) rfl HM4.out [3] rfl covS_nil rfl rfl ?_
    rintro W6 hm5 -
    rw [hm.out]
    have HM7 := Lib.hid hm5
    clear hm5
    simp only [Act.put, List.setIfInBounds_toArray, List.set_cons_succ, List.set_cons_zero]
    refine wpS_this [2] rfl (by kernel_rfl) (by simp only [pickL, nthL, List.cons_append, List.nil_append]; rfl) ?_
    repeat (go_big_quiet_step (fail))
    refine wpQuiet_nil ?_
    refine wpS_nil ?_
    refine then_normal ?_
    refine wp_cond_true rfl ?_
    refine wp_seq ?_
    refine wp_region_N [(0, 1)] (by kernel_rfl) ?_
    refine wpS_this [0] rfl (by kernel_rfl) (by simp only [pickL, nthL, List.cons_append, List.nil_append]; rfl) ?_
    repeat (go_big_quiet_step (fail))
    refine wpQuiet_nil ?_
    refine wpS_nil ?_
    refine then_normal ?_
    refine wp_ret ?_
    refine then_ret ?_
    refine bodyPost_ret (results_tmp rfl _ _ _) rfl ?_
    rw [hw.out]
    exact does_ret (Mem.toRf hys.out rfl rfl rfl (Mem.only (M := [_, _, _]) HM7.out [2, 2, 0] rfl)) rfl rfl
  · have hm := Lib.hid hm'
    clear hm'
    refine wp_region_N [(0, 1), (1, 3), (2, 1)] (by kernel_rfl) ?_
    refine wpS_loadA (i := 0) (d := some 5) (cells := ddC (x.d) (.slice x.vp x.vn x.vc) (.slice x.rp x.rn x.rc)) rfl (by rfl) rfl rfl (HM4.out.part 0 rfl (ddC_all)) Try.underlying43 rfl (by kernel_rfl) rfl ?_
    simp only [Act.put, List.setIfInBounds_toArray, List.set_cons_succ, List.set_cons_zero]
    refine wpS_does1 (i := 1) (d := some 6) (rem := [_, _, _]) (out := [_, _, _, _]) rfl (by rfl) rfl Try.call13 (rmayD_d R _ _ x.d hx) rfl HM4.out [3] rfl covS_nil rfl rfl ?_
    rintro W9 hm8 -
    rw [hm.out]
    have HM10 := Lib.hid hm8
    clear hm8
    simp only [Act.put, List.setIfInBounds_toArray, List.set_cons_succ, List.set_cons_zero]
    refine wpS_this [2] rfl (by kernel_rfl) (by simp only [pickL, nthL, List.cons_append, List.nil_append]; rfl) ?_
    repeat (go_big_quiet_step (fail))
    refine wpQuiet_nil ?_
    refine wpS_nil ?_
    refine then_normal ?_
    refine wp_cond_false rfl ?_
    refine wp_skip ?_
    refine then_normal ?_
    refine wp_seq ?_
    refine wp_seq ?_
    by_cases h2 : S.room ≤ ys.length
    · have hw := Lib.hid (write_full (S := S) hm.out (by rw [← hyl.out]; exact h2))
      have g1 : decide ((S.room : Int) ≤ (ys.length : Int)) = true := decide_eq_true (by omega)
      have g1' : decide (S.room ≤ ys.length) = true := decide_eq_true h2
      replace h2 := Lib.hid h2
      refine wp_region_M (fun k => k ∈ ([] : List Nat)) [(0, 1), (1, 1), (2, 1), (3, 1), (4, 1), (5, 1), (6, 1), (7, 1), (8, 1), (9, 1)] (by kernel_rfl) (by kernel_rfl) HM10.out ?_
      intro W11 hm12
      have HM13 := Lib.hid hm12
      clear hm12
      have Crb := Mem.cell HM13.out 2 rfl
      refine wpS_this [0, 1, 2, 3, 4, 5, 6, 7, 8, 9] rfl (by kernel_rfl) (by simp only [pickL, nthL, List.cons_append, List.nil_append]; rfl) ?_
      repeat (go_big_quiet_step (fail))
      refine wpQuiet_nil ?_
      clear Crb
      refine wpS_nil ?_
      refine then_normal ?_
      refine wp_cond_true rfl ?_
      refine wp_seq ?_
      refine wp_region_N [(0, 1)] (by kernel_rfl) ?_
      refine wpS_this [0] rfl (by kernel_rfl) (by simp only [pickL, nthL, List.cons_append, List.nil_append]; rfl) ?_
      repeat (go_big_quiet_step (fail))
      refine wpQuiet_nil ?_
      refine wpS_nil ?_
      refine then_normal ?_
      refine wp_ret ?_
      refine then_ret ?_
      refine bodyPost_ret (results_tmp rfl _ _ _) rfl ?_
      rw [hw.out]
      exact does_ret (Mem.toRf hys.out rfl rfl rfl (Mem.only (M := [_, _, _]) HM13.out [2, 2, 0] rfl)) rfl rfl
    · have hw := Lib.hid (write_ok (S := S) hm.out (by rw [← hyl.out]; exact h2))
      have g1 : decide ((S.room : Int) ≤ (ys.length : Int)) = false := decide_eq_false (by omega)
      have g1' : decide (S.room ≤ ys.length) = false := decide_eq_false h2
      refine wp_region_M (fun k => k ∈ ([] : List Nat)) [(0, 1), (1, 1), (2, 1), (3, 1), (4, 1), (5, 1), (6, 1), (7, 1), (8, 1), (9, 1)] (by kernel_rfl) (by kernel_rfl) HM10.out ?_
      intro W14 hm15
      have HM16 := Lib.hid hm15
      clear hm15
      have Crb := Mem.cell HM16.out 2 rfl
      refine wpS_this [0, 1, 2, 3, 4, 5, 6, 7, 8, 9] rfl (by kernel_rfl) (by simp only [pickL, nthL, List.cons_append, List.nil_append]; rfl) ?_
      repeat (go_big_quiet_step (fail))
      refine wpQuiet_nil ?_
      clear Crb
      refine wpS_nil ?_
      refine then_normal ?_
      refine wp_cond_false rfl ?_
      refine wp_skip ?_
      refine then_normal ?_
      refine wp_seq ?_
      refine wp_region_M (fun k => k ∈ ([d, b3] : List Nat)) [(0, 0), (1, 0), (2, 0), (3, 0), (4, 2), (5, 1), (6, 3), (7, 3), (8, 1), (9, 1), (10, 4)] (by kernel_rfl) (by kernel_rfl) HM16.out ?_
      intro W17 hm18
      have HM19 := Lib.hid hm18
      clear hm18
      refine wpS_all [0, 1, 2, 3] rfl (by kernel_rfl) (by simp only [pickL, nthL, List.cons_append, List.nil_append]; rfl) ?_
      repeat (go_big_quiet_step (fail))
      refine wpQuiet_nil ?_
      have Crb := Mem.cell HM19.out 2 rfl
      refine wpS_stay [4] rfl (by kernel_rfl) (by simp only [pickL, nthL, List.cons_append, List.nil_append]; rfl) ?_
      repeat (go_big_quiet_step (fail))
      refine wpQuiet_nil ?_
      clear Crb
      refine wpS_loadA (i := 5) (d := some 23) (cells := ddC (x.d) (.slice x.vp x.vn x.vc) (.slice x.rp x.rn x.rc)) rfl (by rfl) rfl rfl (HM19.out.part 1 rfl (ddC_all)) Try.underlying43 rfl (by kernel_rfl) rfl ?_
      simp only [Act.put, List.setIfInBounds_toArray, List.set_cons_succ, List.set_cons_zero]
      refine wpS_buildN elemDx (i := 6) (dd := 24) (n := 1) (xs := [x]) (cs := (x.enc ++ []).toArray) rfl (by rfl) (fun _ => by kernel_rfl) rfl rfl HM19.out (covS_box 2 rfl (covS_box 1 rfl covS_nil)) rfl ?_
      rintro b23 W24 hm25 hg26
      have HM27 := Lib.hid hm25
      clear hm25
      simp only [Act.put, List.setIfInBounds_toArray, List.set_cons_succ, List.set_cons_zero]
      refine wpS_append (E := elemDx) (i := 7) (d := some 25) (L2 := [_, _, _, _]) rfl (by rfl) rfl HM27.out 4 rfl rfl ((HM27.out.src 0 rfl rowT_reads)) rfl (by rw [List.length_singleton]; show _ * 488 ≤ _; omega) rfl (covS_box 3 rfl (covS_box 2 rfl covS_nil)) rfl ?_
      rintro v31 W32 hm33 hg34
      obtain ⟨v31p, v31c, rfl⟩ := row_form (Mem.src hm33 0 rfl rowT_reads)
      have HM35 := Lib.hid hm33
      clear hm33
      simp only [Act.put, List.setIfInBounds_toArray, List.set_cons_succ, List.set_cons_zero]
      refine wpS_this [8, 9] rfl (by kernel_rfl) (by simp only [pickL, nthL, List.cons_append, List.nil_append]; rfl) ?_
      repeat (go_big_quiet_step (fail))
      refine wpQuiet_nil ?_
      refine wpS_store14 (i := 10) (L2 := [_, _, _, _]) (cs' := [_, _, _]) rfl (by rfl) rfl rfl rfl rfl (by kernel_rfl) rfl HM35.out 4 rfl rfl rfl rfl  rfl ?_
      rintro W37 hm36
      have HM39 := Lib.hid hm36
      clear hm36
      refine wpS_nil ?_
      refine then_normal ?_
      refine wp_seq ?_
      refine wp_region_N [(0, 1)] (by kernel_rfl) ?_
      refine wpS_this [0] rfl (by kernel_rfl) (by simp only [pickL, nthL, List.cons_append, List.nil_append]; rfl) ?_
      repeat (go_big_quiet_step (fail))
      refine wpQuiet_nil ?_
      refine wpS_nil ?_
      refine then_normal ?_
      refine wp_ret ?_
      refine bodyPost_ret (results_tmp rfl _ _ _) rfl ?_
      rw [hw.out]
      exact does_ret (Mem.toRf (S := ⟨S.room, S.sure, S.l ++ [x.d]⟩) (by rw [List.map_append, hys.out]; rfl) rfl rfl (by simp) (Mem.only (M := [_, _, _]) HM39.out [0, 0, 1] rfl)) rfl rfl

set_option maxHeartbeats 4000000 in
set_option maxRecDepth 100000 in
theorem rsync_d (d : Nat) (S : Lg) (ys : List Dx) (hS : LgOk S) : Does Try.prog 17 #[.pointer (some ⟨d, 0, none⟩)] [rfT d S ys] (.int .i64 (syncL S).2) [rfT d (syncL S).1 ys] := by
  intro w H hp
  have HM0 := Lib.hid (mem_refl hp)
  clear hp
  obtain ⟨p, c, hys', HM1'⟩ := Mem.rf HM0.out
  clear HM0
  have HM0 := Lib.hid HM1'
  clear HM1'
  have hys := Lib.hid hys'
  have hyl : Hid (ys.length = S.l.length) := Lib.hid (by rw [← hys', List.length_map])
  clear hys'
  have hok1 : ys.length ≤ S.room := by rw [hyl.out]; exact hS.len
  have hok2 : S.sure ≤ ys.length := by rw [hyl.out]; exact hS.sure
  have hok3 := hS.room
  go_enter Try.func17, Try.ntmps17
  refine wp_seq ?_
  refine wp_region_N [(0, 1)] (by kernel_rfl) ?_
  refine wpS_this [0] rfl (by kernel_rfl) (by simp only [pickL, nthL, List.cons_append, List.nil_append]; rfl) ?_
  repeat (go_big_quiet_step (fail))
  refine wpQuiet_nil ?_
  refine wpS_nil ?_
  refine then_normal ?_
  refine wp_seq ?_
  refine wp_region_M (fun k => k ∈ ([] : List Nat)) [(0, 1), (1, 1), (2, 1), (3, 1), (4, 1), (5, 1), (6, 1), (7, 1), (8, 1), (9, 1), (10, 1)] (by kernel_rfl) (by kernel_rfl) HM0.out ?_
  intro W1 hm2
  have HM3 := Lib.hid hm2
  clear hm2
  have Crb := Mem.cell HM3.out 0 rfl
  refine wpS_this [0, 1, 2, 3, 4, 5, 6, 7, 8, 9, 10] rfl (by kernel_rfl) (by simp only [pickL, nthL, List.cons_append, List.nil_append]; rfl) ?_
  repeat (go_big_quiet_step (fail))
  refine wpQuiet_nil ?_
  clear Crb
  refine wpS_nil ?_
  refine then_normal ?_
  refine wp_seq ?_
  refine wp_region_N [(0, 1), (1, 1), (2, 1), (3, 1), (4, 1), (5, 1), (6, 1), (7, 1), (8, 3)] (by kernel_rfl) ?_
  have Crb := Mem.cell HM3.out 0 rfl
  refine wpS_this [0, 1, 2, 3, 4, 5, 6, 7] rfl (by kernel_rfl) (by simp only [pickL, nthL, List.cons_append, List.nil_append]; rfl) ?_
  repeat (go_big_quiet_step (fail))
  refine wpQuiet_nil ?_
  clear Crb
  refine wpS_store1 (i := 8) (v := .int _ _) (L2 := [_]) (cs' := [_, _, _]) rfl (by rfl) rfl rfl rfl rfl (by kernel_rfl) rfl HM3.out 0 rfl rfl rfl rfl covS_nil rfl ?_
  rintro W5 hm4 -
  have HM6 := Lib.hid hm4
  clear hm4
  refine wpS_nil ?_
  refine then_normal ?_
  refine wp_seq ?_
  refine wp_region_N [(0, 1), (1, 1)] (by kernel_rfl) ?_
  refine wpS_this [0, 1] rfl (by kernel_rfl) (by simp only [pickL, nthL, List.cons_append, List.nil_append]; rfl) ?_
  repeat (go_big_quiet_step (fail))
  refine wpQuiet_nil ?_
  refine wpS_nil ?_
  refine then_normal ?_
  refine wp_ret ?_
  refine bodyPost_ret (results_tmp rfl _ _ _) rfl ?_
  exact does_ret (Mem.toRf (S := (syncL S).1) hys.out rfl (by rw [hyl.out]; rfl) rfl (Mem.only (M := [_, _]) HM6.out [0, 0] rfl)) (by show _ = Value.int .i64 ((S.l.length : Int) - (S.sure : Int)); rw [← hyl.out]; rfl) rfl

set_option maxHeartbeats 4000000 in
set_option maxRecDepth 100000 in
theorem rnewL_d (room : Int) : DoesU Try.prog 11 #[.int .i64 room] [] (fun u => [rfN u (newL room)]) := by
  intro w H hp
  have HM0 := Lib.hid (mem_refl hp)
  clear hp
  go_enter Try.func11, Try.ntmps11
  refine wp_seq ?_
  refine wp_region_N [(0, 1)] (by kernel_rfl) ?_
  refine wpS_this [0] rfl (by kernel_rfl) (by simp only [pickL, nthL, List.cons_append, List.nil_append]; rfl) ?_
  repeat (go_big_quiet_step (fail))
  refine wpQuiet_nil ?_
  refine wpS_nil ?_
  refine then_normal ?_
  refine wp_seq ?_
  obtain ⟨cp, hcap'⟩ := int_letter ((newL room).room : Int)
  have hcv : Hid ((if (0 : Int) < (if (3000 : Int) < room then (3000 : Int) else room) then (if (3000 : Int) < room then (3000 : Int) else room) else 0) = cp) := Lib.hid (by rw [← hcap', new_cap]; split <;> split <;> omega)
  have hcap := Lib.hid hcap'
  clear hcap'
  refine wp_region_N [(0, 1), (1, 1), (2, 1), (3, 1), (4, 3), (5, 1)] (by kernel_rfl) ?_
  refine wpS_this [0, 1] rfl (by kernel_rfl) (by simp only [pickL, nthL, List.cons_append, List.nil_append]; rfl) ?_
  repeat (go_big_quiet_step (fail))
  refine wpQuiet_nil ?_
  refine wpS_this [2] rfl (by kernel_rfl) (by simp only [pickL, nthL, List.cons_append, List.nil_append]; rfl) ?_
  repeat (go_big_quiet_step (fail))
  refine wpQuiet_nil ?_
  rw [hcv.out]
  refine wpS_this [3] rfl (by kernel_rfl) (by simp only [pickL, nthL, List.cons_append, List.nil_append]; rfl) ?_
  repeat (go_big_quiet_step (fail))
  refine wpQuiet_nil ?_
  refine wpS_boxA (i := 4) (dd := 7) rfl (by rfl) rfl rfl HM0.out covS_nil rfl ?_
  rintro b3 W2 hm1 -
  have HM4 := Lib.hid hm1
  clear hm1
  simp only [Act.put, List.setIfInBounds_toArray, List.set_cons_succ, List.set_cons_zero]
  refine wpS_this [5] rfl (by kernel_rfl) (by simp only [pickL, nthL, List.cons_append, List.nil_append]; rfl) ?_
  repeat (go_big_quiet_step (fail))
  refine wpQuiet_nil ?_
  refine wpS_nil ?_
  refine then_normal ?_
  refine wp_ret ?_
  refine bodyPost_ret (results_tmp rfl _ _ _) rfl ?_
  exact doesU_ret (post := fun u => [rfN u (newL room)]) (Mem.addEx b3 (Mem.addPr rfl (Mem.toRf rfl hcap.out.symm rfl rfl (Mem.only (M := [_, _]) (Mem.nilRow elemDx HM4.out) [1, 0] rfl)))) rfl

set_option maxHeartbeats 4000000 in
set_option maxRecDepth 100000 in
theorem rcrash_d (d : Nat) (S : Lg) (ys : List Dx) (hS : LgOk S) (stay : Int) : Does Try.prog 19 #[.pointer (some ⟨d, 0, none⟩), .int .i64 stay] [rfT d S ys] (.int .i64 (crashL S stay).2) [rfT d (crashL S stay).1 (ys.take (keepL S stay))] := by
  intro w H hp
  have HM0 := Lib.hid (mem_refl hp)
  clear hp
  obtain ⟨p, c, hys', HM1'⟩ := Mem.rf HM0.out
  clear HM0
  have HM0 := Lib.hid HM1'
  clear HM1'
  have hys := Lib.hid hys'
  have hyl : Hid (ys.length = S.l.length) := Lib.hid (by rw [← hys', List.length_map])
  clear hys'
  have hok1 : ys.length ≤ S.room := by rw [hyl.out]; exact hS.len
  have hok2 : S.sure ≤ ys.length := by rw [hyl.out]; exact hS.sure
  have hok3 := hS.room
  go_enter Try.func19, Try.ntmps19
  refine wp_seq ?_
  refine wp_region_N [(0, 1)] (by kernel_rfl) ?_
  refine wpS_this [0] rfl (by kernel_rfl) (by simp only [pickL, nthL, List.cons_append, List.nil_append]; rfl) ?_
  repeat (go_big_quiet_step (fail))
  refine wpQuiet_nil ?_
  refine wpS_nil ?_
  refine then_normal ?_
  refine wp_seq ?_
  obtain ⟨kp, hkk'⟩ : ∃ x, keepL S stay = x := ⟨_, rfl⟩
  have hkr := keep_le hS stay
  rw [hkk', ← hyl.out] at hkr
  obtain ⟨hkr1, hkr2⟩ := hkr
  have hkp := Lib.hid hkr2
  have hkv : Hid ((S.sure : Int) + (if (0 : Int) < (if (ys.length : Int) - (S.sure : Int) < stay then (ys.length : Int) - (S.sure : Int) else stay) then (if (ys.length : Int) - (S.sure : Int) < stay then (ys.length : Int) - (S.sure : Int) else stay) else 0) = (kp : Int)) := Lib.hid (by rw [← hkk']; unfold keepL; rw [← hyl.out]; split <;> split <;> omega)
  have hkk := Lib.hid hkk'
  clear hkk'
  refine wp_region_M (fun k => k ∈ ([] : List Nat)) [(0, 1), (1, 1), (2, 1), (3, 1), (4, 1), (5, 1), (6, 1), (7, 1), (8, 1), (9, 1), (10, 1), (11, 1), (12, 1), (13, 1), (14, 1), (15, 1), (16, 1), (17, 1), (18, 1)] (by kernel_rfl) (by kernel_rfl) HM0.out ?_
  intro W1 hm2
  have HM3 := Lib.hid hm2
  clear hm2
  have Crb := Mem.cell HM3.out 0 rfl
  refine wpS_this [0, 1, 2, 3, 4, 5, 6, 7, 8, 9, 10, 11, 12, 13, 14, 15, 16] rfl (by kernel_rfl) (by simp only [pickL, nthL, List.cons_append, List.nil_append]; rfl) ?_
  repeat (go_big_quiet_step (fail))
  refine wpQuiet_nil ?_
  clear Crb
  refine wpS_this [17] rfl (by kernel_rfl) (by simp only [pickL, nthL, List.cons_append, List.nil_append]; rfl) ?_
  repeat (go_big_quiet_step (fail))
  refine wpQuiet_nil ?_
  rw [hkv.out]
  refine wpS_this [18] rfl (by kernel_rfl) (by simp only [pickL, nthL, List.cons_append, List.nil_append]; rfl) ?_
  repeat (go_big_quiet_step (fail))
  refine wpQuiet_nil ?_
  refine wpS_nil ?_
  refine then_normal ?_
  refine wp_seq ?_
  refine wp_region_N [(0, 1), (1, 1), (2, 1), (3, 1), (4, 1), (5, 1), (6, 1), (7, 1)] (by kernel_rfl) ?_
  have Crb := Mem.cell HM3.out 0 rfl
  refine wpS_this [0, 1, 2, 3, 4, 5, 6, 7] rfl (by kernel_rfl) (by simp only [pickL, nthL, List.cons_append, List.nil_append]; rfl) ?_
  repeat (go_big_quiet_step (fail))
  refine wpQuiet_nil ?_
  clear Crb
  refine wpS_nil ?_
  refine then_normal ?_
  refine wp_seq ?_
  have HN := Lib.hid (Mem.nilRow elemDx HM3.out)
  have hkc : Hid (kp ≤ c) := Lib.hid (Nat.le_trans hkr2 (by obtain ⟨_, _, _, e1, e2, _⟩ := Mem.src HN.out 2 rfl rowT_reads; simp only [Value.slice.injEq] at e1; omega))
  refine wp_region_N [(0, 1), (1, 1), (2, 1), (3, 1), (4, 1), (5, 1), (6, 1), (7, 3), (8, 1), (9, 1), (10, 3)] (by kernel_rfl) ?_
  have Crb := Mem.cell HN.out 1 rfl
  refine wpS_this [0, 1, 2, 3, 4, 5] rfl (by kernel_rfl) (by simp only [pickL, nthL, List.cons_append, List.nil_append]; rfl) ?_
  repeat (go_big_quiet_step (fail))
  refine wpQuiet_nil ?_
  clear Crb
  refine wpS_read (i := 6) (d := some 38) rfl (by rfl) (run_headE (E := elemDx) (k := kp) (by have := hkc.out; omega) rfl rfl rfl) rfl ?_
  simp only [Act.put, List.setIfInBounds_toArray, List.set_cons_succ, List.set_cons_zero]
  refine wpS_append (E := elemDx) (i := 7) (d := some 39) (L2 := [_, _]) rfl (by rfl) rfl HN.out 0 rfl rfl ((SrcE.take (HN.out.src 2 rfl rowT_reads) hkp.out)) rfl (by rw [List.length_nil, List.length_take]; show _ * 488 ≤ _; omega) rfl covS_nil rfl ?_
  rintro v6 W7 hm8 -
  obtain ⟨v6p, v6c, rfl⟩ := row_form (Mem.src hm8 0 rfl rowT_reads)
  have HM9 := Lib.hid hm8
  clear hm8
  simp only [Act.put, List.setIfInBounds_toArray, List.set_cons_succ, List.set_cons_zero]
  refine wpS_this [8, 9] rfl (by kernel_rfl) (by simp only [pickL, nthL, List.cons_append, List.nil_append]; rfl) ?_
  repeat (go_big_quiet_step (fail))
  refine wpQuiet_nil ?_
  refine wpS_store1 (i := 10) (L2 := [_, _]) (cs' := [_, _, _]) rfl (by rfl) rfl rfl rfl rfl (by kernel_rfl) rfl HM9.out 1 rfl rfl rfl rfl covS_nil rfl ?_
  rintro W11 hm10 -
  have HM12 := Lib.hid hm10
  clear hm10
  refine wpS_nil ?_
  refine then_normal ?_
  refine wp_seq ?_
  refine wp_region_N [(0, 1), (1, 1), (2, 1), (3, 1), (4, 3)] (by kernel_rfl) ?_
  refine wpS_this [0, 1, 2, 3] rfl (by kernel_rfl) (by simp only [pickL, nthL, List.cons_append, List.nil_append]; rfl) ?_
  repeat (go_big_quiet_step (fail))
  refine wpQuiet_nil ?_
  refine wpS_store1 (i := 4) (v := .int _ _) (L2 := [_, _]) (cs' := [_, _, _]) rfl (by rfl) rfl rfl rfl rfl (by kernel_rfl) rfl HM12.out 0 rfl rfl rfl rfl covS_nil rfl ?_
  rintro W14 hm13 -
  have HM15 := Lib.hid hm13
  clear hm13
  refine wpS_nil ?_
  refine then_normal ?_
  refine wp_seq ?_
  refine wp_region_N [(0, 1), (1, 1)] (by kernel_rfl) ?_
  refine wpS_this [0, 1] rfl (by kernel_rfl) (by simp only [pickL, nthL, List.cons_append, List.nil_append]; rfl) ?_
  repeat (go_big_quiet_step (fail))
  refine wpQuiet_nil ?_
  refine wpS_nil ?_
  refine then_normal ?_
  refine wp_ret ?_
  refine bodyPost_ret (results_tmp rfl _ _ _) rfl ?_
  rw [show ys.take (keepL S stay) = [] ++ ys.take kp from by rw [hkk.out, List.nil_append]]
  exact does_ret (Mem.toRf (S := (crashL S stay).1) (by rw [List.nil_append, List.map_take, hys.out, ← hkk.out]; rfl) rfl (by show (kp : Int) = (keepL S stay : Int); rw [hkk.out]) (by simp) (Mem.only (M := [_, _]) HM15.out [0, 0] rfl)) (by show _ = Value.int .i64 ((S.l.length : Int) - (keepL S stay : Int)); rw [← hyl.out, hkk.out]; rfl) rfl

end Go.Proofs.Ytnahhbpaijfpbaa
