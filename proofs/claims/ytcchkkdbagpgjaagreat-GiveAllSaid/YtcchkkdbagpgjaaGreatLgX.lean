/- LgX: LgX. -/
import Derived.Test.YtcchkkdbagpgjaaGreatLgE
import Derived.Test.YtcchkkdbagpgjaaGreatQ18
namespace Go.Proofs.YtcchkkdbagpgjaaGreat
section
open Go Go.RowKit Go.BigFrame
/-- The landed ledger at d: its deeds lie in a row of its own, with all that they hold. -/
def lgT (d : Nat) (S : Lg) : At := exT fun s : List Dx × Option Addr × Nat => [prT (s.1.map (fun y => y.d) = S.l), boxT d (.cells #[.int .i64 (S.room : Int), .slice s.2.1 s.1.length s.2.2, .int .i64 (S.sure : Int)] 99 (0, 0)), rowT elemDx (.slice s.2.1 s.1.length s.2.2) s.1, ownX s.1]
def lgN (u : Value) (S : Lg) : At := exT fun d : Nat => [prT (u = .pointer (some ⟨d, 0, none⟩)), lgT d S]
section
variable {L : List At} {H0 : Nat → Prop} {w W : World} {d : Nat} {S : Lg} {ys : List Dx}
theorem Mem.lg (h : Mem (lgT d S :: L) H0 w W) : ∃ ys p c, ys.map (fun y => y.d) = S.l ∧ Mem (boxT d (.cells #[.int .i64 (S.room : Int), .slice p ys.length c, .int .i64 (S.sure : Int)] 99 (0, 0)) :: rowT elemDx (.slice p ys.length c) ys :: ownX ys :: L) H0 w W := by
  obtain ⟨s, h⟩ := Mem.ex h
  obtain ⟨hu, h⟩ := Mem.pr h
  exact ⟨s.1, s.2.1, s.2.2, hu, h⟩
theorem Mem.toLg {p : Option Addr} {c n : Nat} {a b : Int} (hy : ys.map (fun y => y.d) = S.l) (ha : a = (S.room : Int)) (hb : b = (S.sure : Int)) (hn : n = ys.length) (h : Mem (boxT d (.cells #[.int .i64 a, .slice p n c, .int .i64 b] 99 (0, 0)) :: rowT elemDx (.slice p n c) ys :: ownX ys :: L) H0 w W) : Mem (lgT d S :: L) H0 w W := by
  subst ha hb hn
  exact Mem.addEx (ys, p, c) (Mem.addPr hy h)
theorem Mem.lgN {u : Value} (h : Mem (lgN u S :: L) H0 w W) : ∃ d, u = .pointer (some ⟨d, 0, none⟩) ∧ Mem (lgT d S :: L) H0 w W := by
  obtain ⟨s, h⟩ := Mem.ex h
  obtain ⟨hu, h⟩ := Mem.pr h
  exact ⟨s, hu, h⟩
theorem Mem.rowPtr {α : Type} {P : Program} {E : Elem P α} {p : Option Addr} {n c k : Nat} {xs : List α} (h : Mem L H0 w W) (hk : L[k]? = some (rowT E (.slice p n c) xs)) (hp : 0 < xs.length) : ∃ g, p = some ⟨g, 0, none⟩ := by
  have h1 : Mem (rowT E (.slice p n c) xs :: L.eraseIdx k) H0 w W := SEnd.mono h fun _ h => stars_pick L k _ hk h
  obtain ⟨g, _, e, _⟩ := h1.rowOpen hp
  exact ⟨g, e⟩
end
theorem new_capL (room : Int) : ((newL room).room : Int) = max 0 (min room 3000) := by
  show (((max 0 (min room 3000)).toNat : Nat) : Int) = _
  omega
theorem write_noL {S : Lg} {d : Dd} (h : mayD d = false) : writeL S d = (S, 1) := if_neg (by rw [h]; simp)
theorem write_fullL {S : Lg} {d : Dd} (h : mayD d = true) (h2 : S.room ≤ S.l.length) : writeL S d = (S, 5) := (if_pos h).trans (if_pos h2)
theorem write_okL {S : Lg} {d : Dd} (h : mayD d = true) (h2 : ¬ S.room ≤ S.l.length) : writeL S d = (⟨S.room, S.sure, S.l ++ [d]⟩, 0) := (if_pos h).trans (if_neg h2)
theorem zDx : elemDx.z.cells.toList = elemDx.enc (default : Dx) := by kernel_rfl
theorem Mem.nilOwn {L : List At} {H0 : Nat → Prop} {w W : World} (h : Mem L H0 w W) : Mem (ownX [] :: L) H0 w W := SEnd.mono h fun _ h => starl_emp h
set_option maxHeartbeats 4000000 in
set_option maxRecDepth 100000 in
theorem lnew_d (room : Int) : DoesU Tryz.prog 12 #[.int .i64 room] [] (fun u => [lgN u (newL room)]) := by
  intro w H hp
  have HM0 := Lib.hid (mem_refl hp)
  clear hp
  go_enter Tryz.func12, Tryz.ntmps12
  refine wp_seq ?_
  refine wp_region_N [(0, 1)] (by kernel_rfl) ?_
  refine wpS_this [0] rfl (by kernel_rfl) (by simp only [pickL, nthL, List.cons_append, List.nil_append]; rfl) ?_
  repeat (go_big_quiet_step (fail))
  refine wpQuiet_nil ?_
  refine wpS_nil ?_
  refine then_normal ?_
  refine wp_seq ?_
  obtain ⟨cp, hcap'⟩ := int_letter ((newL room).room : Int)
  have hcv : Hid ((if (3000 : Int) < (if room < (0 : Int) then (0 : Int) else room) then (3000 : Int) else (if room < (0 : Int) then (0 : Int) else room)) = cp) := Lib.hid (by rw [← hcap', new_capL]; split <;> split <;> omega)
  have hcap := Lib.hid hcap'
  clear hcap'
  refine wp_region_N [(0, 1), (1, 1), (2, 1), (3, 1), (4, 3), (5, 1)] (by kernel_rfl) ?_
  refine wpS_this [0, 1] rfl (by kernel_rfl) (by simp only [pickL, nthL, List.cons_append, List.nil_append]; rfl) ?_
  repeat (go_big_quiet_step (fail))
  refine wpQuiet_nil ?_
  refine wpS_this [2] rfl (by kernel_rfl) (by simp only [pickL, nthL, List.cons_append, List.nil_append]; rfl) ?_
  repeat (go_big_quiet_step (fail))
  refine wpQuiet_nil ?_
  rw [hcv.out]
  refine wpS_this [3] rfl (by kernel_rfl) (by simp only [pickL, nthL, List.cons_append, List.nil_append]; rfl) ?_
  repeat (go_big_quiet_step (fail))
  refine wpQuiet_nil ?_
  refine wpS_boxA (i := 4) (dd := 7) rfl (by rfl) rfl rfl HM0.out covS_nil rfl ?_
  rintro b3 W2 hm1 -
  have HM4 := Lib.hid hm1
  clear hm1
  simp only [Act.put, List.setIfInBounds_toArray, List.set_cons_succ, List.set_cons_zero]
  refine wpS_this [5] rfl (by kernel_rfl) (by simp only [pickL, nthL, List.cons_append, List.nil_append]; rfl) ?_
  repeat (go_big_quiet_step (fail))
  refine wpQuiet_nil ?_
  refine wpS_nil ?_
  refine then_normal ?_
  refine wp_ret ?_
  refine bodyPost_ret (results_tmp rfl _ _ _) rfl ?_
  exact doesU_ret (post := fun u => [lgN u (newL room)]) (Mem.addEx b3 (Mem.addPr rfl (Mem.toLg (ys := []) rfl hcap.out.symm rfl rfl (Mem.only (M := [_, _, _]) (Mem.nilOwn (Mem.nilRow elemDx HM4.out)) [2, 1, 0] rfl)))) rfl
set_option maxHeartbeats 4000000 in
set_option maxRecDepth 100000 in
theorem lroom_d (d : Nat) (S : Lg) (hS : LgOk S) : Does Tryz.prog 138 #[.pointer (some ⟨d, 0, none⟩)] [lgT d S] (.int .i64 ((S.room : Int) - (S.l.length : Int))) [lgT d S] := by
  intro w H hp
  have HM0 := Lib.hid (mem_refl hp)
  clear hp
  obtain ⟨ys, p, c, hys', HM1'⟩ := Mem.lg HM0.out
  clear HM0
  have HM0 := Lib.hid HM1'
  clear HM1'
  have hys := Lib.hid hys'
  have hyl : Hid (ys.length = S.l.length) := Lib.hid (by rw [← hys', List.length_map])
  clear hys'
  have hok1 : ys.length ≤ S.room := by rw [hyl.out]; exact hS.len
  have hok2 : S.sure ≤ ys.length := by rw [hyl.out]; exact hS.sure
  have hok3 := hS.room
  go_enter Tryz.func138, Tryz.ntmps138
  refine wp_seq ?_
  refine wp_region_N [(0, 1)] (by kernel_rfl) ?_
  refine wpS_this [0] rfl (by kernel_rfl) (by simp only [pickL, nthL, List.cons_append, List.nil_append]; rfl) ?_
  repeat (go_big_quiet_step (fail))
  refine wpQuiet_nil ?_
  refine wpS_nil ?_
  refine then_normal ?_
  refine wp_seq ?_
  refine wp_seq ?_
  refine wp_region_N [(0, 1), (1, 1)] (by kernel_rfl) ?_
  refine wpS_this [0, 1] rfl (by kernel_rfl) (by simp only [pickL, nthL, List.cons_append, List.nil_append]; rfl) ?_
  repeat (go_big_quiet_step (fail))
  refine wpQuiet_nil ?_
  refine wpS_nil ?_
  refine then_normal ?_
  refine wp_cond_false rfl ?_
  refine wp_skip ?_
  refine then_normal ?_
  refine wp_seq ?_
  refine wp_region_M (fun k => k ∈ ([] : List Nat)) [(0, 1), (1, 1), (2, 1), (3, 1), (4, 1), (5, 1), (6, 1), (7, 1), (8, 1), (9, 1), (10, 1)] (by kernel_rfl) (by kernel_rfl) HM0.out ?_
  intro W1 hm2
  have HM3 := Lib.hid hm2
  clear hm2
  have Crb := Mem.cell HM3.out 0 rfl
  refine wpS_this [0, 1, 2, 3, 4, 5, 6, 7, 8, 9, 10] rfl (by kernel_rfl) (by simp only [pickL, nthL, List.cons_append, List.nil_append]; rfl) ?_
  repeat (go_big_quiet_step (fail))
  refine wpQuiet_nil ?_
  clear Crb
  refine wpS_nil ?_
  refine then_normal ?_
  refine wp_ret ?_
  refine bodyPost_ret (results_tmp rfl _ _ _) rfl ?_
  exact does_ret (Mem.toLg (S := S) hys.out rfl rfl rfl (Mem.only (M := [_, _, _]) HM3.out [0, 0, 0] rfl)) (by rw [← hyl.out]; rfl) rfl
set_option maxHeartbeats 4000000 in
set_option maxRecDepth 100000 in
theorem lwrite_d (R : At) (d : Nat) (S : Lg) (x : Dd) (vx rx : Value) (hx : DdR R x vx rx) (hS : LgOk S) : Does Tryz.prog 108 #[.pointer (some ⟨d, 0, none⟩), ddV x vx rx] [lgT d S, R] (.int .i64 (writeL S x).2) [lgT d (writeL S x).1, R] := by
  intro w H hp
  have HM0 := Lib.hid (mem_refl hp)
  clear hp
  obtain ⟨pvx, cvx, rfl⟩ := row_form (Mem.src HM0.out 1 rfl hx.v)
  obtain ⟨prx, crx, rfl⟩ := row_form (Mem.src HM0.out 1 rfl hx.r)
  go_enter Tryz.func108, Tryz.ntmps108
  refine wp_seq ?_
  refine wp_region_N [(0, 3), (1, 1)] (by kernel_rfl) ?_
  refine wpS_boxA (i := 0) (dd := 3) rfl (by rfl) rfl rfl HM0.out covS_nil rfl ?_
  rintro b3 W2 hm1 -
  have HM4 := Lib.hid hm1
  clear hm1
  simp only [Act.put, List.setIfInBounds_toArray, List.set_cons_succ, List.set_cons_zero]
  refine wpS_this [1] rfl (by kernel_rfl) (by simp only [pickL, nthL, List.cons_append, List.nil_append]; rfl) ?_
  repeat (go_big_quiet_step (fail))
  refine wpQuiet_nil ?_
  refine wpS_nil ?_
  refine then_normal ?_
  refine wp_seq ?_
  refine wp_seq ?_
  cases hm' : mayD x
  · have hm := Lib.hid hm'
    have hw := Lib.hid (write_noL (S := S) hm')
    clear hm'
    refine wp_region_N [(0, 1), (1, 1), (2, 1), (3, 1), (4, 3), (5, 1), (6, 1)] (by kernel_rfl) ?_
    refine wpS_this [0, 1, 2] rfl (by kernel_rfl) (by simp only [pickL, nthL, List.cons_append, List.nil_append]; rfl) ?_
    repeat (go_big_quiet_step (fail))
    refine wpQuiet_nil ?_
    refine wpS_loadA (i := 3) (d := some 8) (cells := ddC (x) (.slice pvx x.b.v.length cvx) (.slice prx x.r.p.2.2.length crx)) rfl (by rfl) rfl rfl (HM4.out.part 0 rfl (ddC_all)) Tryz.underlying96 rfl (by kernel_rfl) rfl ?_
    simp only [Act.put, List.setIfInBounds_toArray, List.set_cons_succ, List.set_cons_zero]
    refine wpS_does1 (i := 4) (d := some 9) (rem := [_, _]) (out := [_, _, _]) rfl (by rfl) rfl Tryz.call137 (lmay_d R _ _ x hx) rfl HM4.out [2] rfl covS_nil rfl rfl ?_
    rintro W6 hm5 -
    rw [hm.out]
    have HM7 := Lib.hid hm5
    clear hm5
    simp only [Act.put, List.setIfInBounds_toArray, List.set_cons_succ, List.set_cons_zero]
    refine wpS_this [5, 6] rfl (by kernel_rfl) (by simp only [pickL, nthL, List.cons_append, List.nil_append]; rfl) ?_
    repeat (go_big_quiet_step (fail))
    refine wpQuiet_nil ?_
    refine wpS_nil ?_
    refine then_normal ?_
    refine wp_cond_true rfl ?_
    refine wp_seq ?_
    refine wp_region_N [(0, 1)] (by kernel_rfl) ?_
    refine wpS_this [0] rfl (by kernel_rfl) (by simp only [pickL, nthL, List.cons_append, List.nil_append]; rfl) ?_
    repeat (go_big_quiet_step (fail))
    refine wpQuiet_nil ?_
    refine wpS_nil ?_
    refine then_normal ?_
    refine wp_ret ?_
    refine then_ret ?_
    refine bodyPost_ret (results_tmp rfl _ _ _) rfl ?_
    rw [hw.out]
    exact does_ret (Mem.only (M := [_, _]) HM7.out [2, 0] rfl) rfl rfl
  · have hm := Lib.hid hm'
    clear hm'
    refine wp_region_N [(0, 1), (1, 1), (2, 1), (3, 1), (4, 3), (5, 1), (6, 1)] (by kernel_rfl) ?_
    refine wpS_this [0, 1, 2] rfl (by kernel_rfl) (by simp only [pickL, nthL, List.cons_append, List.nil_append]; rfl) ?_
    repeat (go_big_quiet_step (fail))
    refine wpQuiet_nil ?_
    refine wpS_loadA (i := 3) (d := some 8) (cells := ddC (x) (.slice pvx x.b.v.length cvx) (.slice prx x.r.p.2.2.length crx)) rfl (by rfl) rfl rfl (HM4.out.part 0 rfl (ddC_all)) Tryz.underlying96 rfl (by kernel_rfl) rfl ?_
    simp only [Act.put, List.setIfInBounds_toArray, List.set_cons_succ, List.set_cons_zero]
    refine wpS_does1 (i := 4) (d := some 9) (rem := [_, _]) (out := [_, _, _]) rfl (by rfl) rfl Tryz.call137 (lmay_d R _ _ x hx) rfl HM4.out [2] rfl covS_nil rfl rfl ?_
    rintro W9 hm8 -
    rw [hm.out]
    have HM10 := Lib.hid hm8
    clear hm8
    simp only [Act.put, List.setIfInBounds_toArray, List.set_cons_succ, List.set_cons_zero]
    refine wpS_this [5, 6] rfl (by kernel_rfl) (by simp only [pickL, nthL, List.cons_append, List.nil_append]; rfl) ?_
    repeat (go_big_quiet_step (fail))
    refine wpQuiet_nil ?_
    refine wpS_nil ?_
    refine then_normal ?_
    refine wp_cond_false rfl ?_
    refine wp_skip ?_
    refine then_normal ?_
    refine wp_seq ?_
    refine wp_seq ?_
    obtain ⟨rm, hrm'⟩ := int_letter ((S.room : Int) - (S.l.length : Int))
    have hrm := Lib.hid hrm'
    have hlen := hS.len
    by_cases h2 : S.room ≤ S.l.length
    · have hw := Lib.hid (write_fullL (S := S) hm.out h2)
      have g1 : (rm == 0) = true := beq_iff_eq.2 (by omega)
      replace h2 := Lib.hid h2
      clear hrm' hlen
      refine wp_region_N [(0, 1), (1, 3), (2, 1)] (by kernel_rfl) ?_
      refine wpS_this [0] rfl (by kernel_rfl) (by simp only [pickL, nthL, List.cons_append, List.nil_append]; rfl) ?_
      repeat (go_big_quiet_step (fail))
      refine wpQuiet_nil ?_
      refine wpS_does1 (i := 1) (d := some 13) (rem := [_, _]) (out := [_, _, _]) rfl (by rfl) rfl Tryz.call138 (lroom_d d S hS) rfl HM10.out [2] rfl covS_nil rfl rfl ?_
      rintro W12 hm11 -
      rw [hrm.out]
      have HM13 := Lib.hid hm11
      clear hm11
      simp only [Act.put, List.setIfInBounds_toArray, List.set_cons_succ, List.set_cons_zero]
      refine wpS_this [2] rfl (by kernel_rfl) (by simp only [pickL, nthL, List.cons_append, List.nil_append]; rfl) ?_
      repeat (go_big_quiet_step (fail))
      refine wpQuiet_nil ?_
      refine wpS_nil ?_
      refine then_normal ?_
      refine wp_cond_true rfl ?_
      refine wp_seq ?_
      refine wp_region_N [(0, 1)] (by kernel_rfl) ?_
      refine wpS_this [0] rfl (by kernel_rfl) (by simp only [pickL, nthL, List.cons_append, List.nil_append]; rfl) ?_
      repeat (go_big_quiet_step (fail))
      refine wpQuiet_nil ?_
      refine wpS_nil ?_
      refine then_normal ?_
      refine wp_ret ?_
      refine then_ret ?_
      refine bodyPost_ret (results_tmp rfl _ _ _) rfl ?_
      rw [hw.out]
      exact does_ret (Mem.only (M := [_, _]) HM13.out [0, 0] rfl) rfl rfl
    · have hw := Lib.hid (write_okL (S := S) hm.out h2)
      have g1 : (rm == 0) = false := beq_eq_false_iff_ne.2 (by omega)
      replace h2 := Lib.hid h2
      clear hrm' hlen
      refine wp_region_N [(0, 1), (1, 3), (2, 1)] (by kernel_rfl) ?_
      refine wpS_this [0] rfl (by kernel_rfl) (by simp only [pickL, nthL, List.cons_append, List.nil_append]; rfl) ?_
      repeat (go_big_quiet_step (fail))
      refine wpQuiet_nil ?_
      refine wpS_does1 (i := 1) (d := some 13) (rem := [_, _]) (out := [_, _, _]) rfl (by rfl) rfl Tryz.call138 (lroom_d d S hS) rfl HM10.out [2] rfl covS_nil rfl rfl ?_
      rintro W15 hm14 -
      rw [hrm.out]
      have HM16 := Lib.hid hm14
      clear hm14
      simp only [Act.put, List.setIfInBounds_toArray, List.set_cons_succ, List.set_cons_zero]
      refine wpS_this [2] rfl (by kernel_rfl) (by simp only [pickL, nthL, List.cons_append, List.nil_append]; rfl) ?_
      repeat (go_big_quiet_step (fail))
      refine wpQuiet_nil ?_
      refine wpS_nil ?_
      refine then_normal ?_
      refine wp_cond_false rfl ?_
      refine wp_skip ?_
      refine then_normal ?_
      refine wp_seq ?_
      obtain ⟨ys, p, c, hys', HM1'⟩ := Mem.lg (Mem.only (M := [_, _, _]) HM16.out [0, 0, 0] rfl)
      have HL := Lib.hid HM1'
      clear HM1'
      have hys := Lib.hid hys'
      have hyl : Hid (ys.length = S.l.length) := Lib.hid (by rw [← hys', List.length_map])
      clear hys'
      have hok1 : ys.length ≤ S.room := by rw [hyl.out]; exact hS.len
      have hok2 : S.sure ≤ ys.length := by rw [hyl.out]; exact hS.sure
      have hok3 := hS.room
      refine wp_region_M (fun k => k ∈ ([d, b3] : List Nat)) [(0, 0), (1, 0), (2, 0), (3, 0), (4, 2), (5, 1), (6, 3), (7, 3), (8, 3), (9, 1), (10, 1), (11, 4)] (by kernel_rfl) (by kernel_rfl) HL.out ?_
      intro W17 hm18
      have HM19 := Lib.hid hm18
      clear hm18
      refine wpS_all [0, 1, 2, 3] rfl (by kernel_rfl) (by simp only [pickL, nthL, List.cons_append, List.nil_append]; rfl) ?_
      repeat (go_big_quiet_step (fail))
      refine wpQuiet_nil ?_
      have Crb := Mem.cell HM19.out 0 rfl
      refine wpS_stay [4] rfl (by kernel_rfl) (by simp only [pickL, nthL, List.cons_append, List.nil_append]; rfl) ?_
      repeat (go_big_quiet_step (fail))
      refine wpQuiet_nil ?_
      clear Crb
      refine wpS_loadA (i := 5) (d := some 20) (cells := ddC (x) (.slice pvx x.b.v.length cvx) (.slice prx x.r.p.2.2.length crx)) rfl (by rfl) rfl rfl (HM19.out.part 4 rfl (ddC_all)) Tryz.underlying96 rfl (by kernel_rfl) rfl ?_
      simp only [Act.put, List.setIfInBounds_toArray, List.set_cons_succ, List.set_cons_zero]
      refine wpS_doesU1 (i := 6) (d := some 21) (rem := [_, _, _, _]) rfl (by rfl) rfl Tryz.call79 (copied_d R _ _ x hx) rfl HM19.out [3] rfl (covS_box 0 rfl (covS_box 3 rfl covS_nil)) (fun _ => rfl) rfl ?_
      rintro u23 W21 hm20 hg22
      obtain ⟨y, hyd', rfl, hm20q⟩ := Mem.cp hm20
      clear hm20
      have hyd := Lib.hid hyd'
      clear hyd'
      have HM24 := Lib.hid hm20q
      clear hm20q
      simp only [Act.put, List.setIfInBounds_toArray, List.set_cons_succ, List.set_cons_zero]
      refine wpS_buildN elemDx (i := 7) (dd := 22) (n := 1) (xs := [y]) (cs := (y.enc ++ []).toArray) rfl (by rfl) (fun _ => by kernel_rfl) rfl rfl HM24.out (covS_box 3 rfl (covS_box 6 rfl covS_nil)) rfl ?_
      rintro b28 W29 hm30 hg31
      have HM32 := Lib.hid hm30
      clear hm30
      simp only [Act.put, List.setIfInBounds_toArray, List.set_cons_succ, List.set_cons_zero]
      refine wpS_append (E := elemDx) (i := 8) (d := some 23) (L2 := [_, _, _, _, _, _, _]) rfl (by rfl) rfl HM32.out 5 rfl rfl ((HM32.out.src 0 rfl rowT_reads)) rfl (by rw [List.length_singleton]; show _ * 488 ≤ _; omega) rfl (covS_box 4 rfl (covS_box 6 rfl covS_nil)) rfl ?_
      rintro v36 W37 hm38 hg39
      obtain ⟨v36p, v36c, rfl⟩ := row_form (Mem.src hm38 0 rfl rowT_reads)
      have HM40 := Lib.hid hm38
      clear hm38
      simp only [Act.put, List.setIfInBounds_toArray, List.set_cons_succ, List.set_cons_zero]
      refine wpS_this [9, 10] rfl (by kernel_rfl) (by simp only [pickL, nthL, List.cons_append, List.nil_append]; rfl) ?_
      repeat (go_big_quiet_step (fail))
      refine wpQuiet_nil ?_
      refine wpS_store14 (i := 11) (L2 := [_, _, _, _, _, _, _]) (cs' := [_, _, _]) rfl (by rfl) rfl rfl rfl rfl (by kernel_rfl) rfl HM40.out 5 rfl rfl rfl rfl  rfl ?_
      rintro W42 hm41
      have HM44 := Lib.hid hm41
      clear hm41
      refine wpS_nil ?_
      refine then_normal ?_
      refine wp_seq ?_
      refine wp_region_N [(0, 1)] (by kernel_rfl) ?_
      refine wpS_this [0] rfl (by kernel_rfl) (by simp only [pickL, nthL, List.cons_append, List.nil_append]; rfl) ?_
      repeat (go_big_quiet_step (fail))
      refine wpQuiet_nil ?_
      refine wpS_nil ?_
      refine then_normal ?_
      refine wp_ret ?_
      refine bodyPost_ret (results_tmp rfl _ _ _) rfl ?_
      rw [hw.out]
      exact does_ret (Mem.toLg (S := ⟨S.room, S.sure, S.l ++ [x]⟩) (ys := ys ++ [y]) (by rw [List.map_append, hys.out, ← hyd.out]; rfl) rfl rfl (by simp) (Mem.only (M := [_, _, _, _]) (Mem.ownAdd (Mem.only (M := [_, _, _, _, _, _]) HM44.out [3, 3, 4, 0, 0, 1] rfl)) [1, 1, 0, 0] rfl)) rfl rfl
theorem Mem.toAlN {L : List At} {H0 : Nat → Prop} {w W : World} {p : Option Addr} {n c : Nat} {xs : List Dx} (hn : n = xs.length) (h : Mem (rowT elemDx (.slice p n c) xs :: ownX xs :: L) H0 w W) : Mem (alT (.slice p n c) (xs.map fun x => x.d) :: L) H0 w W := by
  subst hn
  exact Mem.toAlR h
theorem allL_step {zs : List Dx} {z : Dx} {k n : Nat} (hl : zs.length = k) (hk : k + 1 ≤ n) : (zs ++ List.replicate (n - k) (default : Dx)).set k z = (zs ++ [z]) ++ List.replicate (n - (k + 1)) default := by
  subst hl
  rw [List.set_append_right _ _ (Nat.le_refl _), Nat.sub_self, show n - zs.length = (n - (zs.length + 1)) + 1 by omega, List.replicate_succ, List.set_cons_zero, List.append_assoc]
  rfl
theorem allL_map {zs ys : List Dx} {k : Nat} {y z : Dx} (h : zs.map (fun x => x.d) = (ys.take k).map fun x => x.d) (hy : ys[k]? = some y) (hz : z.d = y.d) : (zs ++ [z]).map (fun x => x.d) = (ys.take (k + 1)).map fun x => x.d := by
  have hlt := (List.getElem?_eq_some_iff.1 hy).1
  have he := (List.getElem?_eq_some_iff.1 hy).2
  rw [List.take_succ_eq_append_getElem hlt, he, List.map_append, List.map_append, h]
  show _ ++ [z.d] = _ ++ [y.d]
  rw [hz]
set_option maxHeartbeats 4000000 in
set_option maxRecDepth 100000 in
theorem lall_d (d : Nat) (S : Lg) (hS : LgOk S) : DoesU Tryz.prog 37 #[.pointer (some ⟨d, 0, none⟩)] [lgT d S] (fun u => [alT u S.l, lgT d S]) := by
  intro w H hp
  have HM0 := Lib.hid (mem_refl hp)
  clear hp
  obtain ⟨ys, p, c, hys', HM1'⟩ := Mem.lg HM0.out
  clear HM0
  have HM0 := Lib.hid HM1'
  clear HM1'
  have hys := Lib.hid hys'
  have hyl : Hid (ys.length = S.l.length) := Lib.hid (by rw [← hys', List.length_map])
  clear hys'
  have hok1 : ys.length ≤ S.room := by rw [hyl.out]; exact hS.len
  have hok2 : S.sure ≤ ys.length := by rw [hyl.out]; exact hS.sure
  have hok3 := hS.room
  have hox : Hid (∀ x ∈ ys, DxR (ownX ys) x) := Lib.hid (ownX_reads (by rw [hys.out]; exact hS.may))
  go_enter Tryz.func37, Tryz.ntmps37
  refine wp_seq ?_
  refine wp_region_N [(0, 1)] (by kernel_rfl) ?_
  refine wpS_this [0] rfl (by kernel_rfl) (by simp only [pickL, nthL, List.cons_append, List.nil_append]; rfl) ?_
  repeat (go_big_quiet_step (fail))
  refine wpQuiet_nil ?_
  refine wpS_nil ?_
  refine then_normal ?_
  refine wp_seq ?_
  refine wp_seq ?_
  refine wp_region_N [(0, 1), (1, 1)] (by kernel_rfl) ?_
  refine wpS_this [0, 1] rfl (by kernel_rfl) (by simp only [pickL, nthL, List.cons_append, List.nil_append]; rfl) ?_
  repeat (go_big_quiet_step (fail))
  refine wpQuiet_nil ?_
  refine wpS_nil ?_
  refine then_normal ?_
  refine wp_cond_false rfl ?_
  refine wp_skip ?_
  refine then_normal ?_
  refine wp_seq ?_
  refine wp_region_N [(0, 1), (1, 1), (2, 1), (3, 1), (4, 1), (5, 3), (6, 1)] (by kernel_rfl) ?_
  have Crb := Mem.cell HM0.out 0 rfl
  refine wpS_this [0, 1, 2, 3, 4] rfl (by kernel_rfl) (by simp only [pickL, nthL, List.cons_append, List.nil_append]; rfl) ?_
  repeat (go_big_quiet_step (fail))
  refine wpQuiet_nil ?_
  clear Crb
  refine wpS_makeE (E := elemDx) (i := 5) (dd := 13) (n := ys.length) zDx rfl (by rfl) rfl rfl rfl (by show 488 * _ ≤ _; omega) HM0.out covS_nil rfl ?_
  rintro bz W2 hm1 -
  have HM3 := Lib.hid hm1
  clear hm1
  simp only [Act.put, List.setIfInBounds_toArray, List.set_cons_succ, List.set_cons_zero]
  refine wpS_this [6] rfl (by kernel_rfl) (by simp only [pickL, nthL, List.cons_append, List.nil_append]; rfl) ?_
  repeat (go_big_quiet_step (fail))
  refine wpQuiet_nil ?_
  refine wpS_nil ?_
  refine then_normal ?_
  refine wp_seq ?_
  refine wp_seq ?_
  have HN := Lib.hid (Mem.nilOwn HM3.out)
  refine wp_region_N [(0, 1), (1, 1), (2, 1), (3, 1), (4, 1), (5, 1)] (by kernel_rfl) ?_
  have Crb := Mem.cell HN.out 2 rfl
  refine wpS_this [0, 1, 2, 3, 4, 5] rfl (by kernel_rfl) (by simp only [pickL, nthL, List.cons_append, List.nil_append]; rfl) ?_
  repeat (go_big_quiet_step (fail))
  refine wpQuiet_nil ?_
  clear Crb
  refine wpS_nil ?_
  refine then_normal ?_
  refine wp_block ?_
  refine wp_loop_F [4, 5, 19, 20, 21, 22, 23, 24, 25, 26, 27, 28, 29] (fun n vs W' => ∃ (k : Nat) (zs : List Dx), n = ys.length - k ∧ vs 19 = .int .i64 (k : Int) ∧ k ≤ ys.length ∧ zs.length = k ∧ zs.map (fun x => x.d) = (ys.take k).map (fun x => x.d) ∧ Mem [rowT elemDx (.slice (some ⟨bz, 0, none⟩) ys.length ys.length) (zs ++ List.replicate (ys.length - k) default), ownX zs, boxT d (.cells #[.int .i64 (S.room : Int), .slice p ys.length c, .int .i64 (S.sure : Int)] 99 (0, 0)), rowT elemDx (.slice p ys.length c) ys, ownX ys] H w W') (n0 := ys.length) ?_ ?_
  · exact ⟨0, [], rfl, rfl, Nat.zero_le _, rfl, rfl, (Mem.only (M := [_, _, _, _, _]) HN.out [1, 0, 0, 0, 0] rfl)⟩
  rintro n vs W' ⟨k, zs, rfl, e19, hk, hzl', hzd', hm⟩
  simp only [putAll, List.map_cons, List.map_nil, Act.put, List.setIfInBounds_toArray, List.set_cons_succ, List.set_cons_zero]
  rw [e19]
  clear e19
  have hzl := Lib.hid hzl'
  clear hzl'
  have hzd := Lib.hid hzd'
  clear hzd'
  have HM4 := Lib.hid hm
  clear hm
  refine wp_seq ?_
  refine wp_region_N [(0, 1)] (by kernel_rfl) ?_
  refine wpS_this [0] rfl (by kernel_rfl) (by simp only [pickL, nthL, List.cons_append, List.nil_append]; rfl) ?_
  repeat (go_big_quiet_step (fail))
  refine wpQuiet_nil ?_
  refine wpS_nil ?_
  refine then_normal ?_
  refine wp_seq ?_
  refine wp_cond_split rfl (fun h5 => ?_) (fun h5 => ?_)
  · have hk1 : k + 1 ≤ ys.length := by have : (k : Int) < ((ys.length : Nat) : Int) := (by simpa using h5); omega
    clear h5
    obtain ⟨y, hy'⟩ : ∃ y, ys[k]? = some y := ⟨_, List.getElem?_eq_getElem (hk1)⟩
    have hy := Lib.hid hy'
    clear hy'
    refine wp_skip ?_
    refine then_normal ?_
    refine wp_seq ?_
    refine wp_block ?_
    refine wp_seq ?_
    refine wp_region_N [(0, 1), (1, 1), (2, 1), (3, 3), (4, 1), (5, 3)] (by kernel_rfl) ?_
    refine wpS_this [0] rfl (by kernel_rfl) (by simp only [pickL, nthL, List.cons_append, List.nil_append]; rfl) ?_
    repeat (go_big_quiet_step (fail))
    refine wpQuiet_nil ?_
    refine wpS_index (E := elemDx) (i := 1) (d := some 22) rfl (by rfl) rfl rfl rfl (rowAt_src (Mem.src HM4.out 3 rfl rowT_reads)) (hy.out) rfl ?_
    intro eb6 eo7 hc8
    simp only [Act.put, List.setIfInBounds_toArray, List.set_cons_succ, List.set_cons_zero]
    refine wpS_loadA (i := 2) (d := some 23) (cells := Dx.enc y) rfl (by rfl) rfl rfl hc8 Tryz.underlying96 rfl (by kernel_rfl) rfl ?_
    simp only [Act.put, List.setIfInBounds_toArray, List.set_cons_succ, List.set_cons_zero]
    refine wpS_alloc (i := 3) (dd := 5) (z := ddV noD (.slice none 0 0) (.slice none 0 0)) (cs := (ddC noD (.slice none 0 0) (.slice none 0 0)).toArray) rfl (by rfl) rfl (by kernel_rfl) rfl HM4.out covS_nil rfl ?_
    rintro b11 W10 hm9 -
    have HM12 := Lib.hid hm9
    clear hm9
    simp only [Act.put, List.setIfInBounds_toArray, List.set_cons_succ, List.set_cons_zero]
    refine wpS_this [4] rfl (by kernel_rfl) (by simp only [pickL, nthL, List.cons_append, List.nil_append]; rfl) ?_
    repeat (go_big_quiet_step (fail))
    refine wpQuiet_nil ?_
    refine wpS_storeA (i := 5) (L2 := [_, _, _, _, _]) (cs' := ddC (y.d) (.slice y.vp y.vn y.vc) (.slice y.rp y.rn y.rc)) rfl (by rfl) rfl rfl rfl (by kernel_rfl) (ddC_one _ _ _ _ _ _) HM12.out 0 rfl rfl (by kernel_rfl) (by kernel_rfl) covS_nil rfl ?_
    rintro W14 hm13 -
    have HM15 := Lib.hid hm13
    clear hm13
    refine wpS_nil ?_
    refine then_normal ?_
    refine wp_region_N [(0, 1), (1, 1), (2, 1), (3, 3), (4, 1), (5, 3)] (by kernel_rfl) ?_
    refine wpS_this [0, 1] rfl (by kernel_rfl) (by simp only [pickL, nthL, List.cons_append, List.nil_append]; rfl) ?_
    repeat (go_big_quiet_step (fail))
    refine wpQuiet_nil ?_
    refine wpS_loadA (i := 2) (d := some 26) (cells := ddC (y.d) (.slice y.vp y.vn y.vc) (.slice y.rp y.rn y.rc)) rfl (by rfl) rfl rfl (HM15.out.part 0 rfl (ddC_all)) Tryz.underlying96 rfl (by kernel_rfl) rfl ?_
    simp only [Act.put, List.setIfInBounds_toArray, List.set_cons_succ, List.set_cons_zero]
    refine wpS_doesU1 (i := 3) (d := some 27) (rem := [_, _, _, _, _]) rfl (by rfl) rfl Tryz.call79 (copied_d (ownX ys) _ _ y.d (hox.out y (List.mem_of_getElem? hy.out))) rfl HM15.out [5] rfl covS_nil (fun _ => rfl) rfl ?_
    rintro u18 W17 hm16 -
    obtain ⟨z, hzx', rfl, hm16q⟩ := Mem.cp hm16
    clear hm16
    have hzx := Lib.hid hzx'
    clear hzx'
    have HM19 := Lib.hid hm16q
    clear hm16q
    simp only [Act.put, List.setIfInBounds_toArray, List.set_cons_succ, List.set_cons_zero]
    refine wpS_addrE (E := elemDx) (i := 4) (d := some 28) (j := k) rfl (by rfl) rfl rfl rfl HM19.out 4 rfl (by have := hzl.out; rw [List.length_append, List.length_replicate]; omega) rfl ?_
    intro gz hgz
    simp only [Act.put, List.setIfInBounds_toArray, List.set_cons_succ, List.set_cons_zero]
    refine wpS_putE (E := elemDx) (i := 5) (j := k) (y0 := z) (L2 := [_, _, _, _, _, _, _]) rfl rfl (by rfl) rfl rfl rfl HM19.out 4 rfl hgz rfl (by have := hzl.out; rw [List.length_append, List.length_replicate]; omega) covS_nil rfl ?_
    rintro W21 hm20 -
    rw [allL_step hzl.out hk1] at hm20
    have HM22 := Lib.hid hm20
    clear hm20
    refine wpS_nil ?_
    refine block_normal ?_
    refine then_normal ?_
    refine wp_region_N [(0, 1), (1, 1)] (by kernel_rfl) ?_
    refine wpS_this [0, 1] rfl (by kernel_rfl) (by simp only [pickL, nthL, List.cons_append, List.nil_append]; rfl) ?_
    repeat (go_big_quiet_step (fail))
    refine wpQuiet_nil ?_
    refine wpS_nil ?_
    refine then_normal ?_
    refine ⟨by kernel_rfl, ?_⟩
    exact ⟨ys.length - (k + 1), by omega, k + 1, zs ++ [z], rfl, rfl, hk1, (by rw [List.length_append, hzl.out]; rfl), allL_map hzd.out hy.out hzx.out, (Mem.only (M := [_, _, _, _, _]) (Mem.ownAdd (Mem.only (M := [_, _, _, _, _, _, _]) HM22.out [1, 1, 3, 0, 2, 2, 0] rfl)) [1, 0, 0, 0, 0] rfl)⟩
  · have hge : Hid (ys.length ≤ k) := Lib.hid (by have : ¬ (k : Int) < ((ys.length : Nat) : Int) := (by simpa using h5); omega)
    clear h5
    refine wp_exit ?_
    refine then_exit (then_exit (block_exit ?_))
    refine then_normal ?_
    refine wp_seq ?_
    refine wp_region_N [(0, 1), (1, 1)] (by kernel_rfl) ?_
    refine wpS_this [0, 1] rfl (by kernel_rfl) (by simp only [pickL, nthL, List.cons_append, List.nil_append]; rfl) ?_
    repeat (go_big_quiet_step (fail))
    refine wpQuiet_nil ?_
    refine wpS_nil ?_
    refine then_normal ?_
    refine wp_ret ?_
    refine bodyPost_ret (results_tmp rfl _ _ _) rfl ?_
    have HA := (Mem.only (M := [_, _, _, _, _]) HM4.out [0, 0, 0, 0, 0] rfl)
    rw [show ys.length - k = 0 by have := hge.out; omega, List.replicate_zero, List.append_nil] at HA
    have hln : ys.length = zs.length := by have := hge.out; rw [hzl.out]; omega
    rw [show S.l = zs.map (fun x => x.d) by rw [hzd.out, List.take_of_length_le hge.out, hys.out]]
    exact doesU_ret (post := fun u => [alT u (zs.map fun x => x.d), lgT d S]) (Mem.toAlN hln (Mem.only (M := [_, _, _]) (Mem.toLg (S := S) hys.out rfl rfl rfl (Mem.only (M := [_, _, _, _, _]) HA [2, 2, 2, 0, 0] rfl)) [1, 1, 0] rfl)) rfl
end
end Go.Proofs.YtcchkkdbagpgjaaGreat
