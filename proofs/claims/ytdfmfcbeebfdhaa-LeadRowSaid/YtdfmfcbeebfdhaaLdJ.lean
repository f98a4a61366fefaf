/- Lead: LeadRow. -/
import Derived.Test.YtdfmfcbeebfdhaaLdA
namespace Go.Proofs.Ytdfmfcbeebfdhaa
open Go Go.RowKit Go.BigFrame

set_option maxHeartbeats 4000000 in
set_option maxRecDepth 100000 in
theorem row_d (W0 : World) (vh : Value) (sh : List Int) (hh : SrcE elemI W0 vh sh) : Does Try.prog 7 #[vh] [oldT W0] (.bool true) [oldT W0] := by
  intro w H hp
  have HM0 := Lib.hid (mem_refl hp)
  clear hp
  obtain ⟨ph, ch, rfl⟩ := row_form hh
  go_enter Try.func7, Try.ntmps7
  refine wp_seq ?_
  refine wp_region_N [(0, 1)] (by kernel_rfl) ?_
  refine wpS_this [0] rfl (by kernel_rfl) (by simp only [pickL, nthL, List.cons_append, List.nil_append]; rfl) ?_
  repeat (go_big_quiet_step (fail))
  refine wpQuiet_nil ?_
  refine wpS_nil ?_
  refine then_normal ?_
  refine wp_seq ?_
  refine wp_seq ?_
  by_cases hl : sh.length ≤ 20
  · have g1 : decide (20 < sh.length) = false := decide_eq_false (by omega)
    have g1' : decide ((20 : Int) < (sh.length : Int)) = false := decide_eq_false (by omega)
    refine wp_region_N [(0, 1), (1, 1), (2, 1)] (by kernel_rfl) ?_
    refine wpS_this [0, 1, 2] rfl (by kernel_rfl) (by simp only [pickL, nthL, List.cons_append, List.nil_append]; rfl) ?_
    repeat (go_big_quiet_step (fail))
    refine wpQuiet_nil ?_
    refine wpS_nil ?_
    refine then_normal ?_
    refine wp_cond_false rfl ?_
    refine wp_skip ?_
    refine then_normal ?_
    refine wp_seq ?_
    obtain ⟨r0, hr0', hrow0'⟩ := row_first
    have hB : r0.p.2.2 = List.replicate 16 0 := by rw [hrow0'.p]
    rw [← hB] at hrow0'
    clear hB
    have hr0 := Lib.hid hr0'
    clear hr0'
    have hrow0 := Lib.hid hrow0'
    clear hrow0'
    refine wp_region_N [(0, 3), (1, 1), (2, 1), (3, 1), (4, 3), (5, 3), (6, 1)] (by kernel_rfl) ?_
    refine wpS_doesU1 (i := 0) (d := some 19) (rem := [_]) rfl (by rfl) rfl Try.call19 (gfirst_d 0 (oneR 0) true rfl) rfl HM0.out [] rfl covS_nil (fun _ => rfl) rfl ?_
    rintro u3 W2 hm1 -
    obtain ⟨px, cx, rfl, hm1q⟩ := Mem.ringE (n := 0) rfl hm1
    clear hm1
    have HM4 := Lib.hid hm1q
    clear hm1q
    simp only [Act.put, List.setIfInBounds_toArray, List.set_cons_succ, List.set_cons_zero]
    refine wpS_this [1, 2, 3] rfl (by kernel_rfl) (by simp only [pickL, nthL, List.cons_append, List.nil_append]; rfl) ?_
    repeat (go_big_quiet_step (fail))
    refine wpQuiet_nil ?_
    refine wpS_alloc (i := 4) (dd := 3) (z := rgV noR (.slice none 0 0)) (cs := (rgC noR (.slice none 0 0)).toArray) rfl (by rfl) rfl (by kernel_rfl) rfl HM4.out covS_nil rfl ?_
    rintro b7 W6 hm5 -
    have HM8 := Lib.hid hm5
    clear hm5
    simp only [Act.put, List.setIfInBounds_toArray, List.set_cons_succ, List.set_cons_zero]
    refine wpS_storeA (i := 5) (L2 := [_, _]) (cs' := rgC ((oneR 0)) (.slice px 0 cx)) rfl (by rfl) rfl rfl rfl (by kernel_rfl) (rgC_one _ _ _) HM8.out 0 rfl rfl (by kernel_rfl) (by kernel_rfl) covS_nil rfl ?_
    rintro W10 hm9 -
    have HM11 := Lib.hid hm9
    clear hm9
    refine wpS_this [6] rfl (by kernel_rfl) (by simp only [pickL, nthL, List.cons_append, List.nil_append]; rfl) ?_
    repeat (go_big_quiet_step (fail))
    refine wpQuiet_nil ?_
    refine wpS_nil ?_
    refine then_normal ?_
    refine wp_seq ?_
    refine wp_region_N [(0, 1), (1, 3), (2, 3), (3, 1), (4, 1), (5, 1), (6, 3), (7, 1)] (by kernel_rfl) ?_
    refine wpS_loadA (i := 0) (d := some 23) (cells := rgC ((oneR 0)) (.slice px 0 cx)) rfl (by rfl) rfl rfl (HM11.out.sub 0 rfl (fun k u h => by rw [Nat.zero_add]; exact h)) Try.underlying30 rfl (by kernel_rfl) rfl ?_
    simp only [Act.put, List.setIfInBounds_toArray, List.set_cons_succ, List.set_cons_zero]
    refine wpS_build1 elemI (i := 1) (dd := 24) (y := (0 : Int)) rfl (by rfl) rfl rfl rfl (by decide) HM11.out covS_nil rfl ?_
    rintro b14 W15 hm16 -
    have HM17 := Lib.hid hm16
    clear hm16
    simp only [Act.put, List.setIfInBounds_toArray, List.set_cons_succ, List.set_cons_zero]
    refine wpS_doesU3 (i := 2) (d := some 25) (rem := [_, _]) rfl (by rfl) rfl Try.call10 (DoesU.ofList (gstage_d (listT [_, _]) _ (oneR 0) (srcL 0 rfl rowT_reads) (Nat.zero_le _) 0 _ [0] (rowL 1 rfl rowOwn) (Nat.le_of_ble_eq_true rfl) r0 0 hr0.out)) rfl rfl rfl HM17.out [2, 0] rfl covS_nil (fun _ => rfl) rfl ?_
    rintro u20 W19 hm18 -
    obtain ⟨pr0, cr0, rfl, hm18q⟩ := Mem.ringE rfl hm18
    clear hm18
    have HM21 := Lib.hid hm18q
    clear hm18q
    simp only [Act.put, List.setIfInBounds_toArray, List.set_cons_succ, List.set_cons_zero]
    refine wpS_this [3, 4, 5] rfl (by kernel_rfl) (by simp only [pickL, nthL, List.cons_append, List.nil_append]; rfl) ?_
    repeat (go_big_quiet_step (fail))
    refine wpQuiet_nil ?_
    refine wpS_storeA (i := 6) (L2 := [_, _, _, _]) (cs' := rgC (r0) (.slice pr0 r0.p.2.2.length cr0)) rfl (by rfl) rfl rfl rfl (by kernel_rfl) (rgC_one _ _ _) HM21.out 3 rfl rfl (by kernel_rfl) (by kernel_rfl) covS_nil rfl ?_
    rintro W23 hm22 -
    have HM24 := Lib.hid hm22
    clear hm22
    refine wpS_this [7] rfl (by kernel_rfl) (by simp only [pickL, nthL, List.cons_append, List.nil_append]; rfl) ?_
    repeat (go_big_quiet_step (fail))
    refine wpQuiet_nil ?_
    refine wpS_nil ?_
    refine then_normal ?_
    refine wp_seq ?_
    refine wp_seq ?_
    refine wp_region_N [(0, 1), (1, 1)] (by kernel_rfl) ?_
    refine wpS_this [0, 1] rfl (by kernel_rfl) (by simp only [pickL, nthL, List.cons_append, List.nil_append]; rfl) ?_
    repeat (go_big_quiet_step (fail))
    refine wpQuiet_nil ?_
    refine wpS_nil ?_
    refine then_normal ?_
    refine wp_cond_false rfl ?_
    refine wp_skip ?_
    refine then_normal ?_
    refine wp_seq ?_
    refine wp_region_N [(0, 1)] (by kernel_rfl) ?_
    refine wpS_this [0] rfl (by kernel_rfl) (by simp only [pickL, nthL, List.cons_append, List.nil_append]; rfl) ?_
    repeat (go_big_quiet_step (fail))
    refine wpQuiet_nil ?_
    refine wpS_nil ?_
    refine then_normal ?_
    refine wp_seq ?_
    refine wp_seq ?_
    refine wp_region_N [(0, 1), (1, 1), (2, 1)] (by kernel_rfl) ?_
    refine wpS_this [0, 1, 2] rfl (by kernel_rfl) (by simp only [pickL, nthL, List.cons_append, List.nil_append]; rfl) ?_
    repeat (go_big_quiet_step (fail))
    refine wpQuiet_nil ?_
    refine wpS_nil ?_
    refine then_normal ?_
    refine wp_block ?_
    refine wp_loop_F [2, 6, 8, 9, 10, 11, 12, 13, 32, 33, 34, 35, 36, 37, 38, 39, 40, 41, 42, 43, 44, 45, 46, 47, 48, 49, 50, 51, 52, 53, 54, 55, 56, 57, 58, 59, 60, 61, 62, 63, 64, 65, 66, 67, 68, 69, 70, 71, 72, 73, 74, 75, 76, 77, 78, 79, 80, 81, 82, 83, 84, 85, 86, 87, 88, 89, 90, 91, 92, 93, 94, 95, 96, 97, 98, 99, 100, 101, 102, 103, 104, 105, 106, 107, 108, 109, 110, 111, 112, 113, 114, 115, 116, 117, 118, 119, 120, 121, 122, 123, 124, 125, 126, 127, 128, 129, 130, 131, 132] (fun n vs W' => ∃ (k v : Nat) (r : Rg) (pr : Option Addr) (cr : Nat), n = sh.length - k ∧ vs 32 = .int .i64 (k : Int) ∧ vs 6 = .int .i64 (v : Int) ∧ k ≤ sh.length ∧ RowR r v r.p.2.2 ∧ Mem [boxT b7 (.cells (rgC r (.slice pr r.p.2.2.length cr)).toArray 30 (0, 0)), rowT elemI (.slice pr r.p.2.2.length cr) r.p.2.2, oldT W0] H w W') (n0 := sh.length) ?_ ?_
    · exact ⟨0, 1, r0, _, _, rfl, rfl, rfl, Nat.zero_le _, hrow0.out, (Mem.only (M := [_, _, _]) HM24.out [0, 0, 2] rfl)⟩
    rintro n vs W' ⟨k, v, r, pr, cr, rfl, e32, e6, hk, hrw', hm⟩
    simp only [putAll, List.map_cons, List.map_nil, Act.put, List.setIfInBounds_toArray, List.set_cons_succ, List.set_cons_zero]
    rw [e32, e6]
    clear e32 e6
    have hv8 : v ≤ 8 := hrw'.v8
    have hr16 := Lib.hid hrw'.len
    have lr : r.p.2.2.length ≤ 1000 := by rw [hr16.out]; decide
    have glr : ((r.p.2.2.length : Int) != 16) = false := by rw [hr16.out]; rfl
    have glrn : (r.p.2.2.length != 16) = false := by rw [hr16.out]; rfl
    have hrw := Lib.hid hrw'
    clear hrw'
    have HM25 := Lib.hid hm
    clear hm
    refine wp_seq ?_
    refine wp_region_N [(0, 1)] (by kernel_rfl) ?_
    refine wpS_this [0] rfl (by kernel_rfl) (by simp only [pickL, nthL, List.cons_append, List.nil_append]; rfl) ?_
    repeat (go_big_quiet_step (fail))
    refine wpQuiet_nil ?_
    refine wpS_nil ?_
    refine then_normal ?_
    refine wp_seq ?_
    refine wp_cond_split rfl (fun h26 => ?_) (fun h26 => ?_)
    · have hk1 : k + 1 ≤ sh.length := by have : (k : Int) < ((sh.length : Nat) : Int) := (by simpa using h26); omega
      clear h26
      obtain ⟨z, hz'⟩ : ∃ y, sh[k]? = some y := ⟨_, List.getElem?_eq_getElem (hk1)⟩
      have hz := Lib.hid hz'
      clear hz'
      refine wp_skip ?_
      refine then_normal ?_
      refine wp_seq ?_
      refine wp_block ?_
      refine wp_seq ?_
      refine wp_region_N [(0, 1), (1, 1), (2, 1)] (by kernel_rfl) ?_
      refine wpS_index (E := elemI) (i := 0) (d := some 34) rfl (by rfl) rfl rfl rfl (HM25.out.row 2 rfl (srcOld hh).row) (hz.out) rfl ?_
      intro eb27 eo28 hc29
      simp only [Act.put, List.setIfInBounds_toArray, List.set_cons_succ, List.set_cons_zero]
      refine wpS_load1 (i := 1) (d := some 35) (u := .int .i64 z) rfl (by rfl) rfl rfl (hc29 0 _ rfl) Try.underlying3 rfl rfl ?_
      simp only [Act.put, List.setIfInBounds_toArray, List.set_cons_succ, List.set_cons_zero]
      refine wpS_this [2] rfl (by kernel_rfl) (by simp only [pickL, nthL, List.cons_append, List.nil_append]; rfl) ?_
      repeat (go_big_quiet_step (fail))
      refine wpQuiet_nil ?_
      refine wpS_nil ?_
      refine then_normal ?_
      refine wp_seq ?_
      obtain ⟨n0, hn0, hmn'⟩ := mod_small 8 (by decide) (by decide) z
      have hn8 : n0 < 8 := by omega
      clear hn0
      have hmn := Lib.hid hmn'
      clear hmn'
      refine wp_region_N [(0, 1), (1, 1), (2, 1), (3, 1), (4, 1)] (by kernel_rfl) ?_
      refine wpS_this [0, 1, 2] rfl (by kernel_rfl) (by simp only [pickL, nthL, List.cons_append, List.nil_append]; rfl) ?_
      repeat (go_big_quiet_step (fail))
      refine wpQuiet_nil ?_
      refine wpS_this [3] rfl (by kernel_rfl) (by simp only [pickL, nthL, List.cons_append, List.nil_append]; rfl) ?_
      repeat (go_big_quiet_step (fail))
      refine wpQuiet_nil ?_
      rw [hmn.out]
      refine wpS_this [4] rfl (by kernel_rfl) (by simp only [pickL, nthL, List.cons_append, List.nil_append]; rfl) ?_
      repeat (go_big_quiet_step (fail))
      refine wpQuiet_nil ?_
      refine wpS_nil ?_
      refine then_normal ?_
      refine wp_seq ?_
      rcases row_step hrw.out hn8 with hq | ⟨t, B, hq, hst', hrt', hts, hcm', hmv', hcl⟩
      · replace hq := Lib.hid hq
        refine wp_region_N [(0, 1), (1, 1), (2, 3), (3, 1), (4, 1), (5, 1), (6, 3), (7, 3), (8, 1)] (by kernel_rfl) ?_
        refine wpS_loadA (i := 0) (d := some 41) (cells := rgC (r) (.slice pr r.p.2.2.length cr)) rfl (by rfl) rfl rfl (HM25.out.sub 0 rfl (fun k u h => by rw [Nat.zero_add]; exact h)) Try.underlying30 rfl (by kernel_rfl) rfl ?_
        simp only [Act.put, List.setIfInBounds_toArray, List.set_cons_succ, List.set_cons_zero]
        refine wpS_this [1] rfl (by kernel_rfl) (by simp only [pickL, nthL, List.cons_append, List.nil_append]; rfl) ?_
        repeat (go_big_quiet_step (fail))
        refine wpQuiet_nil ?_
        refine wpS_doesU3 (i := 2) (d := some 43) (rem := [_, _]) rfl (by rfl) rfl Try.call20 (grise_d (rowT elemI _ _) _ r rowT_reads lr (n0 : Int) 1 noR 8 hq.out) rfl rfl rfl HM25.out [1] rfl covS_nil (fun _ => rfl) rfl ?_
        rintro u32 W31 hm30 -
        obtain ⟨pf, cf, rfl, hm30q⟩ := Mem.ringE (n := 0) rfl hm30
        clear hm30
        have HM33 := Lib.hid hm30q
        clear hm30q
        simp only [Act.put, List.setIfInBounds_toArray, List.set_cons_succ, List.set_cons_zero]
        refine wpS_this [3, 4, 5] rfl (by kernel_rfl) (by simp only [pickL, nthL, List.cons_append, List.nil_append]; rfl) ?_
        repeat (go_big_quiet_step (fail))
        refine wpQuiet_nil ?_
        refine wpS_alloc (i := 6) (dd := 9) (z := rgV noR (.slice none 0 0)) (cs := (rgC noR (.slice none 0 0)).toArray) rfl (by rfl) rfl (by kernel_rfl) rfl HM33.out covS_nil rfl ?_
        rintro b36 W35 hm34 -
        have HM37 := Lib.hid hm34
        clear hm34
        simp only [Act.put, List.setIfInBounds_toArray, List.set_cons_succ, List.set_cons_zero]
        refine wpS_storeA (i := 7) (L2 := [_, _, _, _]) (cs' := rgC (noR) (.slice pf 0 cf)) rfl (by rfl) rfl rfl rfl (by kernel_rfl) (rgC_one _ _ _) HM37.out 0 rfl rfl (by kernel_rfl) (by kernel_rfl) covS_nil rfl ?_
        rintro W39 hm38 -
        have HM40 := Lib.hid hm38
        clear hm38
        refine wpS_this [8] rfl (by kernel_rfl) (by simp only [pickL, nthL, List.cons_append, List.nil_append]; rfl) ?_
        repeat (go_big_quiet_step (fail))
        refine wpQuiet_nil ?_
        refine wpS_nil ?_
        refine then_normal ?_
        refine wp_seq ?_
        refine wp_seq ?_
        refine wp_region_N [(0, 1), (1, 1)] (by kernel_rfl) ?_
        refine wpS_this [0, 1] rfl (by kernel_rfl) (by simp only [pickL, nthL, List.cons_append, List.nil_append]; rfl) ?_
        repeat (go_big_quiet_step (fail))
        refine wpQuiet_nil ?_
        refine wpS_nil ?_
        refine then_normal ?_
        refine wp_cond_true rfl ?_
        refine wp_exit ?_
        refine then_exit (block_exit ?_)
        refine then_normal ?_
        refine wp_region_N [(0, 1), (1, 1)] (by kernel_rfl) ?_
        refine wpS_this [0, 1] rfl (by kernel_rfl) (by simp only [pickL, nthL, List.cons_append, List.nil_append]; rfl) ?_
        repeat (go_big_quiet_step (fail))
        refine wpQuiet_nil ?_
        refine wpS_nil ?_
        refine then_normal ?_
        refine ⟨by kernel_rfl, ?_⟩
        exact ⟨sh.length - (k + 1), by omega, k + 1, v, r, _, _, rfl, rfl, rfl, hk1, hrw.out, (Mem.only (M := [_, _, _]) HM40.out [3, 2, 2] rfl)⟩
      · have hB : t.p.2.2 = B := by rw [hrt'.p]
        subst hB
        replace hq := Lib.hid hq
        have ht16 := Lib.hid hrt'.len
        have lt : t.p.2.2.length ≤ 1000 := by rw [ht16.out]; decide
        have gv : (t.p.1 != (v : Int) + 1) = false := by rw [bne_eq_false_iff_eq, hrt'.p]; rfl
        have gb : (t.p.2.1 != 0) = false := by rw [bne_eq_false_iff_eq, hrt'.p]
        have gs : (t.s n0 != 2) = false := by rw [bne_eq_false_iff_eq]; exact hts
        have glt : ((t.p.2.2.length : Int) != 16) = false := by rw [ht16.out]; rfl
        have gltn : (t.p.2.2.length != 16) = false := by rw [ht16.out]; rfl
        obtain ⟨cl, hcl2'⟩ : ∃ y, (ofR t 2 2).length = y := ⟨_, rfl⟩
        rw [hcl2'] at hmv' hcl
        obtain ⟨mv, hmq'⟩ : ∃ y, 16 / cl = y := ⟨_, rfl⟩
        rw [hmq'] at hmv'
        clear hts
        have hst := Lib.hid hst'
        clear hst'
        have hrt := Lib.hid hrt'
        clear hrt'
        have hcm := Lib.hid hcm'
        clear hcm'
        have hmv := Lib.hid hmv'
        clear hmv'
        have hcl2 := Lib.hid hcl2'
        clear hcl2'
        have hmq := Lib.hid hmq'
        clear hmq'
        refine wp_region_N [(0, 1), (1, 1), (2, 3), (3, 1), (4, 1), (5, 1), (6, 3), (7, 3), (8, 1)] (by kernel_rfl) ?_
        refine wpS_loadA (i := 0) (d := some 41) (cells := rgC (r) (.slice pr r.p.2.2.length cr)) rfl (by rfl) rfl rfl (HM25.out.sub 0 rfl (fun k u h => by rw [Nat.zero_add]; exact h)) Try.underlying30 rfl (by kernel_rfl) rfl ?_
        simp only [Act.put, List.setIfInBounds_toArray, List.set_cons_succ, List.set_cons_zero]
        refine wpS_this [1] rfl (by kernel_rfl) (by simp only [pickL, nthL, List.cons_append, List.nil_append]; rfl) ?_
        repeat (go_big_quiet_step (fail))
        refine wpQuiet_nil ?_
        refine wpS_doesU3 (i := 2) (d := some 43) (rem := [_, _]) rfl (by rfl) rfl Try.call20 (grise_d (rowT elemI _ _) _ r rowT_reads lr (n0 : Int) 1 ⟨upd r.s n0 1, r.p, r.e⟩ 0 hq.out) rfl rfl rfl HM25.out [1] rfl covS_nil (fun _ => rfl) rfl ?_
        rintro u43 W42 hm41 -
        obtain ⟨pf, cf, rfl, hm41q⟩ := Mem.ringE rfl hm41
        clear hm41
        have HM44 := Lib.hid hm41q
        clear hm41q
        simp only [Act.put, List.setIfInBounds_toArray, List.set_cons_succ, List.set_cons_zero]
        refine wpS_this [3, 4, 5] rfl (by kernel_rfl) (by simp only [pickL, nthL, List.cons_append, List.nil_append]; rfl) ?_
        repeat (go_big_quiet_step (fail))
        refine wpQuiet_nil ?_
        refine wpS_alloc (i := 6) (dd := 9) (z := rgV noR (.slice none 0 0)) (cs := (rgC noR (.slice none 0 0)).toArray) rfl (by rfl) rfl (by kernel_rfl) rfl HM44.out covS_nil rfl ?_
        rintro b47 W46 hm45 -
        have HM48 := Lib.hid hm45
        clear hm45
        simp only [Act.put, List.setIfInBounds_toArray, List.set_cons_succ, List.set_cons_zero]
        refine wpS_storeA (i := 7) (L2 := [_, _, _, _]) (cs' := rgC (⟨upd r.s n0 1, r.p, r.e⟩) (.slice pf r.p.2.2.length cf)) rfl (by rfl) rfl rfl rfl (by kernel_rfl) (rgC_one _ _ _) HM48.out 0 rfl rfl (by kernel_rfl) (by kernel_rfl) covS_nil rfl ?_
        rintro W50 hm49 -
        have HM51 := Lib.hid hm49
        clear hm49
        refine wpS_this [8] rfl (by kernel_rfl) (by simp only [pickL, nthL, List.cons_append, List.nil_append]; rfl) ?_
        repeat (go_big_quiet_step (fail))
        refine wpQuiet_nil ?_
        refine wpS_nil ?_
        refine then_normal ?_
        refine wp_seq ?_
        refine wp_seq ?_
        refine wp_region_N [(0, 1), (1, 1)] (by kernel_rfl) ?_
        refine wpS_this [0, 1] rfl (by kernel_rfl) (by simp only [pickL, nthL, List.cons_append, List.nil_append]; rfl) ?_
        repeat (go_big_quiet_step (fail))
        refine wpQuiet_nil ?_
        refine wpS_nil ?_
        refine then_normal ?_
        refine wp_cond_false rfl ?_
        refine wp_skip ?_
        refine then_normal ?_
        refine wp_seq ?_
        refine wp_region_N [(0, 1), (1, 3), (2, 3), (3, 1), (4, 1), (5, 1), (6, 3), (7, 3), (8, 1)] (by kernel_rfl) ?_
        refine wpS_loadA (i := 0) (d := some 49) (cells := rgC (⟨upd r.s n0 1, r.p, r.e⟩) (.slice pf r.p.2.2.length cf)) rfl (by rfl) rfl rfl (HM51.out.sub 0 rfl (fun k u h => by rw [Nat.zero_add]; exact h)) Try.underlying30 rfl (by kernel_rfl) rfl ?_
        simp only [Act.put, List.setIfInBounds_toArray, List.set_cons_succ, List.set_cons_zero]
        refine wpS_build1 elemI (i := 1) (dd := 50) (y := (0 : Int)) rfl (by rfl) rfl rfl rfl (by decide) HM51.out covS_nil rfl ?_
        rintro b54 W55 hm56 -
        have HM57 := Lib.hid hm56
        clear hm56
        simp only [Act.put, List.setIfInBounds_toArray, List.set_cons_succ, List.set_cons_zero]
        refine wpS_doesU3 (i := 2) (d := some 51) (rem := [_, _, _, _]) rfl (by rfl) rfl Try.call10 (DoesU.ofList (gstage_d (listT [_, _]) _ ⟨upd r.s n0 1, r.p, r.e⟩ (srcL 0 rfl rowT_reads) lr 0 _ [0] (rowL 1 rfl rowOwn) (Nat.le_of_ble_eq_true rfl) t 0 hst.out)) rfl rfl rfl HM57.out [2, 0] rfl covS_nil (fun _ => rfl) rfl ?_
        rintro u60 W59 hm58 -
        obtain ⟨pt, ct, rfl, hm58q⟩ := Mem.ringE rfl hm58
        clear hm58
        have HM61 := Lib.hid hm58q
        clear hm58q
        simp only [Act.put, List.setIfInBounds_toArray, List.set_cons_succ, List.set_cons_zero]
        refine wpS_this [3, 4, 5] rfl (by kernel_rfl) (by simp only [pickL, nthL, List.cons_append, List.nil_append]; rfl) ?_
        repeat (go_big_quiet_step (fail))
        refine wpQuiet_nil ?_
        refine wpS_alloc (i := 6) (dd := 11) (z := rgV noR (.slice none 0 0)) (cs := (rgC noR (.slice none 0 0)).toArray) rfl (by rfl) rfl (by kernel_rfl) rfl HM61.out covS_nil rfl ?_
        rintro b64 W63 hm62 -
        have HM65 := Lib.hid hm62
        clear hm62
        simp only [Act.put, List.setIfInBounds_toArray, List.set_cons_succ, List.set_cons_zero]
        refine wpS_storeA (i := 7) (L2 := [_, _, _, _, _, _, _]) (cs' := rgC (t) (.slice pt t.p.2.2.length ct)) rfl (by rfl) rfl rfl rfl (by kernel_rfl) (rgC_one _ _ _) HM65.out 0 rfl rfl (by kernel_rfl) (by kernel_rfl) covS_nil rfl ?_
        rintro W67 hm66 -
        have HM68 := Lib.hid hm66
        clear hm66
        refine wpS_this [8] rfl (by kernel_rfl) (by simp only [pickL, nthL, List.cons_append, List.nil_append]; rfl) ?_
        repeat (go_big_quiet_step (fail))
        refine wpQuiet_nil ?_
        refine wpS_nil ?_
        refine then_normal ?_
        refine wp_seq ?_
        refine wp_region_N [(0, 1), (1, 1), (2, 1)] (by kernel_rfl) ?_
        refine wpS_this [0, 1, 2] rfl (by kernel_rfl) (by simp only [pickL, nthL, List.cons_append, List.nil_append]; rfl) ?_
        repeat (go_big_quiet_step (fail))
        refine wpQuiet_nil ?_
        refine wpS_nil ?_
        refine then_normal ?_
        refine wp_seq ?_
        refine wp_seq ?_
        refine wp_region_N [(0, 1), (1, 1), (2, 1), (3, 1), (4, 1), (5, 1), (6, 1), (7, 1), (8, 1), (9, 1), (10, 1), (11, 1), (12, 1), (13, 1), (14, 1), (15, 1), (16, 1), (17, 1), (18, 1), (19, 1), (20, 1), (21, 1), (22, 1), (23, 1), (24, 1), (25, 1), (26, 1), (27, 1), (28, 1), (29, 1), (30, 1), (31, 1), (32, 1), (33, 1), (34, 1), (35, 1)] (by kernel_rfl) ?_
        refine wpS_this [0, 1, 2, 3, 4] rfl (by kernel_rfl) (by simp only [pickL, nthL, List.cons_append, List.nil_append]; rfl) ?_
        repeat (go_big_quiet_step (fail))
        refine wpQuiet_nil ?_
        refine wpS_load1 (i := 5) (d := some 61) (u := _) rfl (by rfl) rfl rfl (HM68.out.sub1 0 rfl (rgC_pl 0 _ rfl)) Try.underlying3 rfl rfl ?_
        simp only [Act.put, List.setIfInBounds_toArray, List.set_cons_succ, List.set_cons_zero]
        refine wpS_this [6, 7, 8, 9, 10, 11] rfl (by kernel_rfl) (by simp only [pickL, nthL, List.cons_append, List.nil_append]; rfl) ?_
        repeat (go_big_quiet_step (fail))
        refine wpQuiet_nil ?_
        refine wpS_load1 (i := 12) (d := some 68) (u := _) rfl (by rfl) rfl rfl (HM68.out.sub1 0 rfl (rgC_pl 1 _ rfl)) Try.underlying3 rfl rfl ?_
        simp only [Act.put, List.setIfInBounds_toArray, List.set_cons_succ, List.set_cons_zero]
        refine wpS_this [13, 14, 15, 16, 17] rfl (by kernel_rfl) (by simp only [pickL, nthL, List.cons_append, List.nil_append]; rfl) ?_
        repeat (go_big_quiet_step (fail))
        refine wpQuiet_nil ?_
        refine wpS_read (i := 18) (d := some 74) rfl (by rfl) (run_addrSt (hn8) rfl rfl rfl) rfl ?_
        simp only [Act.put, List.setIfInBounds_toArray, List.set_cons_succ, List.set_cons_zero]
        refine wpS_load1 (i := 19) (d := some 75) (u := _) rfl (by rfl) rfl rfl (HM68.out.sub1 0 rfl (rgC_s (hn8))) Try.underlying3 rfl rfl ?_
        simp only [Act.put, List.setIfInBounds_toArray, List.set_cons_succ, List.set_cons_zero]
        refine wpS_this [20, 21, 22, 23, 24] rfl (by kernel_rfl) (by simp only [pickL, nthL, List.cons_append, List.nil_append]; rfl) ?_
        repeat (go_big_quiet_step (fail))
        refine wpQuiet_nil ?_
        refine wpS_load1 (i := 25) (d := some 81) (u := .slice pt t.p.2.2.length ct) rfl (by rfl) rfl rfl (HM68.out.sub1 0 rfl (rgC_pl 2 _ rfl)) Try.underlying23 rfl rfl ?_
        simp only [Act.put, List.setIfInBounds_toArray, List.set_cons_succ, List.set_cons_zero]
        refine wpS_this [26, 27, 28, 29, 30, 31] rfl (by kernel_rfl) (by simp only [pickL, nthL, List.cons_append, List.nil_append]; rfl) ?_
        repeat (go_big_quiet_step (fail))
        refine wpQuiet_nil ?_
        refine wpS_load1 (i := 32) (d := some 88) (u := .slice pr r.p.2.2.length cr) rfl (by rfl) rfl rfl (HM68.out.sub1 6 rfl (rgC_pl 2 _ rfl)) Try.underlying23 rfl rfl ?_
        simp only [Act.put, List.setIfInBounds_toArray, List.set_cons_succ, List.set_cons_zero]
        refine wpS_this [33, 34, 35] rfl (by kernel_rfl) (by simp only [pickL, nthL, List.cons_append, List.nil_append]; rfl) ?_
        repeat (go_big_quiet_step (fail))
        refine wpQuiet_nil ?_
        refine wpS_nil ?_
        refine then_normal ?_
        refine wp_cond_false rfl ?_
        refine wp_skip ?_
        refine then_normal ?_
        refine wp_seq ?_
        refine wp_seq ?_
        refine wp_region_N [(0, 1)] (by kernel_rfl) ?_
        refine wpS_this [0] rfl (by kernel_rfl) (by simp only [pickL, nthL, List.cons_append, List.nil_append]; rfl) ?_
        repeat (go_big_quiet_step (fail))
        refine wpQuiet_nil ?_
        refine wpS_nil ?_
        refine then_normal ?_
        refine wp_block ?_
        refine wp_loop_F [2, 13, 92, 93, 94, 95, 96, 97, 98, 99, 100, 101, 102, 103, 104, 105, 106, 107, 108, 109, 110, 111, 112, 113, 114, 115, 116, 117, 118] (fun n ws W' => ∃ p : Nat, n = 16 - p ∧ ws 92 = .int .i64 (p : Int) ∧ p ≤ 16 ∧ True ∧ Mem [boxT b64 (.cells (rgC t (.slice pt t.p.2.2.length ct)).toArray 30 (0, 0)), boxT b7 (.cells (rgC r (.slice pr r.p.2.2.length cr)).toArray 30 (0, 0)), rowT elemI (.slice pt t.p.2.2.length ct) t.p.2.2, rowT elemI (.slice pr r.p.2.2.length cr) r.p.2.2, oldT W0] H w W') (n0 := 16) ?_ ?_
        · exact ⟨0, rfl, rfl, Nat.zero_le _, trivial, (Mem.only (M := [_, _, _, _, _]) HM68.out [0, 5, 0, 3, 3] rfl)⟩
        rintro n ws W' ⟨p, rfl, e92, hp, hg', hm2⟩
        simp only [putAll, List.map_cons, List.map_nil, Act.put, List.setIfInBounds_toArray, List.set_cons_succ, List.set_cons_zero]
        rw [e92]
        clear e92
        have hg := Lib.hid hg'
        clear hg'
        have HM69 := Lib.hid hm2
        clear hm2
        refine wp_seq ?_
        refine wp_region_N [(0, 1)] (by kernel_rfl) ?_
        refine wpS_this [0] rfl (by kernel_rfl) (by simp only [pickL, nthL, List.cons_append, List.nil_append]; rfl) ?_
        repeat (go_big_quiet_step (fail))
        refine wpQuiet_nil ?_
        refine wpS_nil ?_
        refine then_normal ?_
        refine wp_seq ?_
        refine wp_cond_split rfl (fun h70 => ?_) (fun h70 => ?_)
        · have hp1 : p + 1 ≤ 16 := by have : (p : Int) < 16 := (by simpa using h70); omega
          clear h70
          obtain ⟨y, hy'⟩ : ∃ y, t.p.2.2[p]? = some y := ⟨_, List.getElem?_eq_getElem (by have := ht16.out; omega)⟩
          have hy := Lib.hid hy'
          clear hy'
          obtain ⟨x, hx'⟩ : ∃ y, r.p.2.2[p]? = some y := ⟨_, List.getElem?_eq_getElem (by have := hr16.out; omega)⟩
          have hx := Lib.hid hx'
          clear hx'
          refine wp_skip ?_
          refine then_normal ?_
          refine wp_seq ?_
          refine wp_block ?_
          refine wp_seq ?_
          refine wp_region_N [(0, 1), (1, 1)] (by kernel_rfl) ?_
          refine wpS_this [0, 1] rfl (by kernel_rfl) (by simp only [pickL, nthL, List.cons_append, List.nil_append]; rfl) ?_
          repeat (go_big_quiet_step (fail))
          refine wpQuiet_nil ?_
          refine wpS_nil ?_
          refine then_normal ?_
          refine wp_seq ?_
          by_cases hyx : y = x
          · have gy : (y != x) = false := by rw [bne_eq_false_iff_eq]; exact hyx
            clear hyx
            refine wp_region_M (fun k => k ∈ ([] : List Nat)) [(0, 1), (1, 1), (2, 1), (3, 1), (4, 1), (5, 1), (6, 1), (7, 1), (8, 1), (9, 1), (10, 1), (11, 1), (12, 1), (13, 1), (14, 1), (15, 1), (16, 1), (17, 1), (18, 1), (19, 1), (20, 1), (21, 1), (22, 1)] (by kernel_rfl) (by kernel_rfl) HM69.out ?_
            intro W71 hm72
            have HM73 := Lib.hid hm72
            clear hm72
            refine wpS_this [0, 1] rfl (by kernel_rfl) (by simp only [pickL, nthL, List.cons_append, List.nil_append]; rfl) ?_
            repeat (go_big_quiet_step (fail))
            refine wpQuiet_nil ?_
            refine wpS_load1 (i := 2) (d := some 97) (u := .slice pt t.p.2.2.length ct) rfl (by rfl) rfl rfl (HM73.out.sub1 0 rfl (rgC_pl 2 _ rfl)) Try.underlying23 rfl rfl ?_
            simp only [Act.put, List.setIfInBounds_toArray, List.set_cons_succ, List.set_cons_zero]
            refine wpS_this [3] rfl (by kernel_rfl) (by simp only [pickL, nthL, List.cons_append, List.nil_append]; rfl) ?_
            repeat (go_big_quiet_step (fail))
            refine wpQuiet_nil ?_
            refine wpS_index (E := elemI) (i := 4) (d := some 99) rfl (by rfl) rfl rfl rfl (HM73.out.row 2 rfl rowOwn) (hy.out) rfl ?_
            intro eb74 eo75 hc76
            simp only [Act.put, List.setIfInBounds_toArray, List.set_cons_succ, List.set_cons_zero]
            refine wpS_load1 (i := 5) (d := some 100) (u := .int .i64 y) rfl (by rfl) rfl rfl (hc76 0 _ rfl) Try.underlying3 rfl rfl ?_
            simp only [Act.put, List.setIfInBounds_toArray, List.set_cons_succ, List.set_cons_zero]
            refine wpS_this [6, 7] rfl (by kernel_rfl) (by simp only [pickL, nthL, List.cons_append, List.nil_append]; rfl) ?_
            repeat (go_big_quiet_step (fail))
            refine wpQuiet_nil ?_
            refine wpS_load1 (i := 8) (d := some 103) (u := .slice pr r.p.2.2.length cr) rfl (by rfl) rfl rfl (HM73.out.sub1 1 rfl (rgC_pl 2 _ rfl)) Try.underlying23 rfl rfl ?_
            simp only [Act.put, List.setIfInBounds_toArray, List.set_cons_succ, List.set_cons_zero]
            refine wpS_this [9] rfl (by kernel_rfl) (by simp only [pickL, nthL, List.cons_append, List.nil_append]; rfl) ?_
            repeat (go_big_quiet_step (fail))
            refine wpQuiet_nil ?_
            refine wpS_index (E := elemI) (i := 10) (d := some 105) rfl (by rfl) rfl rfl rfl (HM73.out.row 3 rfl rowOwn) (hx.out) rfl ?_
            intro eb77 eo78 hc79
            simp only [Act.put, List.setIfInBounds_toArray, List.set_cons_succ, List.set_cons_zero]
            refine wpS_load1 (i := 11) (d := some 106) (u := .int .i64 x) rfl (by rfl) rfl rfl (hc79 0 _ rfl) Try.underlying3 rfl rfl ?_
            simp only [Act.put, List.setIfInBounds_toArray, List.set_cons_succ, List.set_cons_zero]
            refine wpS_this [12, 13, 14, 15] rfl (by kernel_rfl) (by simp only [pickL, nthL, List.cons_append, List.nil_append]; rfl) ?_
            repeat (go_big_quiet_step (fail))
            refine wpQuiet_nil ?_
            refine wpS_skip (i := 16) (d := some 111) rfl (by rfl) rfl ?_
            simp only [Act.put, List.setIfInBounds_toArray, List.set_cons_succ, List.set_cons_zero]
            refine wpS_this [17] rfl (by kernel_rfl) (by simp only [pickL, nthL, List.cons_append, List.nil_append]; rfl) ?_
            repeat (go_big_quiet_step (fail))
            refine wpQuiet_nil ?_
            refine wpS_skip (i := 18) (d := some 113) rfl (by rfl) rfl ?_
            simp only [Act.put, List.setIfInBounds_toArray, List.set_cons_succ, List.set_cons_zero]
            refine wpS_skip (i := 19) (d := some 114) rfl (by rfl) rfl ?_
            simp only [Act.put, List.setIfInBounds_toArray, List.set_cons_succ, List.set_cons_zero]
            refine wpS_this [20, 21, 22] rfl (by kernel_rfl) (by simp only [pickL, nthL, List.cons_append, List.nil_append]; rfl) ?_
            repeat (go_big_quiet_step (fail))
            refine wpQuiet_nil ?_
            refine wpS_nil ?_
            refine then_normal ?_
            refine wp_cond_false rfl ?_
            refine wp_skip ?_
            refine block_normal ?_
            refine then_normal ?_
            refine wp_region_N [(0, 1), (1, 1)] (by kernel_rfl) ?_
            refine wpS_this [0, 1] rfl (by kernel_rfl) (by simp only [pickL, nthL, List.cons_append, List.nil_append]; rfl) ?_
            repeat (go_big_quiet_step (fail))
            refine wpQuiet_nil ?_
            refine wpS_nil ?_
            refine then_normal ?_
            refine ⟨by kernel_rfl, ?_⟩
            refine ⟨16 - (p + 1), by omega, p + 1, rfl, rfl, hp1, trivial, (Mem.only (M := [_, _, _, _, _]) HM73.out [0, 0, 0, 0, 0] rfl)⟩
          · have gy : (y != x) = true := bne_iff_ne.2 hyx
            have hyn : (y != (n0 : Int)) = false := by rw [bne_eq_false_iff_eq, ← atL_of hy.out]; exact hcm.out p (by omega) (by rw [atL_of hy.out, atL_of hx.out]; exact hyx)
            clear hyx
            refine wp_region_M (fun k => k ∈ ([] : List Nat)) [(0, 1), (1, 1), (2, 1), (3, 1), (4, 1), (5, 1), (6, 1), (7, 1), (8, 1), (9, 1), (10, 1), (11, 1), (12, 1), (13, 1), (14, 1), (15, 1), (16, 1), (17, 1), (18, 1), (19, 1), (20, 1), (21, 1), (22, 1)] (by kernel_rfl) (by kernel_rfl) HM69.out ?_
            intro W80 hm81
            have HM82 := Lib.hid hm81
            clear hm81
            refine wpS_this [0, 1] rfl (by kernel_rfl) (by simp only [pickL, nthL, List.cons_append, List.nil_append]; rfl) ?_
            repeat (go_big_quiet_step (fail))
            refine wpQuiet_nil ?_
            refine wpS_load1 (i := 2) (d := some 97) (u := .slice pt t.p.2.2.length ct) rfl (by rfl) rfl rfl (HM82.out.sub1 0 rfl (rgC_pl 2 _ rfl)) Try.underlying23 rfl rfl ?_
            simp only [Act.put, List.setIfInBounds_toArray, List.set_cons_succ, List.set_cons_zero]
            refine wpS_this [3] rfl (by kernel_rfl) (by simp only [pickL, nthL, List.cons_append, List.nil_append]; rfl) ?_
            repeat (go_big_quiet_step (fail))
            refine wpQuiet_nil ?_
            refine wpS_index (E := elemI) (i := 4) (d := some 99) rfl (by rfl) rfl rfl rfl (HM82.out.row 2 rfl rowOwn) (hy.out) rfl ?_
            intro eb83 eo84 hc85
            simp only [Act.put, List.setIfInBounds_toArray, List.set_cons_succ, List.set_cons_zero]
            refine wpS_load1 (i := 5) (d := some 100) (u := .int .i64 y) rfl (by rfl) rfl rfl (hc85 0 _ rfl) Try.underlying3 rfl rfl ?_
            simp only [Act.put, List.setIfInBounds_toArray, List.set_cons_succ, List.set_cons_zero]
            refine wpS_this [6, 7] rfl (by kernel_rfl) (by simp only [pickL, nthL, List.cons_append, List.nil_append]; rfl) ?_
            repeat (go_big_quiet_step (fail))
            refine wpQuiet_nil ?_
            refine wpS_load1 (i := 8) (d := some 103) (u := .slice pr r.p.2.2.length cr) rfl (by rfl) rfl rfl (HM82.out.sub1 1 rfl (rgC_pl 2 _ rfl)) Try.underlying23 rfl rfl ?_
            simp only [Act.put, List.setIfInBounds_toArray, List.set_cons_succ, List.set_cons_zero]
            refine wpS_this [9] rfl (by kernel_rfl) (by simp only [pickL, nthL, List.cons_append, List.nil_append]; rfl) ?_
            repeat (go_big_quiet_step (fail))
            refine wpQuiet_nil ?_
            refine wpS_index (E := elemI) (i := 10) (d := some 105) rfl (by rfl) rfl rfl rfl (HM82.out.row 3 rfl rowOwn) (hx.out) rfl ?_
            intro eb86 eo87 hc88
            simp only [Act.put, List.setIfInBounds_toArray, List.set_cons_succ, List.set_cons_zero]
            refine wpS_load1 (i := 11) (d := some 106) (u := .int .i64 x) rfl (by rfl) rfl rfl (hc88 0 _ rfl) Try.underlying3 rfl rfl ?_
            simp only [Act.put, List.setIfInBounds_toArray, List.set_cons_succ, List.set_cons_zero]
            refine wpS_this [12, 13, 14, 15] rfl (by kernel_rfl) (by simp only [pickL, nthL, List.cons_append, List.nil_append]; rfl) ?_
            repeat (go_big_quiet_step (fail))
            refine wpQuiet_nil ?_
            refine wpS_load1 (i := 16) (d := some 111) (u := .slice pt t.p.2.2.length ct) rfl (by rfl) rfl rfl (HM82.out.sub1 0 rfl (rgC_pl 2 _ rfl)) Try.underlying23 rfl rfl ?_
            simp only [Act.put, List.setIfInBounds_toArray, List.set_cons_succ, List.set_cons_zero]
            refine wpS_this [17] rfl (by kernel_rfl) (by simp only [pickL, nthL, List.cons_append, List.nil_append]; rfl) ?_
            repeat (go_big_quiet_step (fail))
            refine wpQuiet_nil ?_
            refine wpS_index (E := elemI) (i := 18) (d := some 113) rfl (by rfl) rfl rfl rfl (HM82.out.row 2 rfl rowOwn) (hy.out) rfl ?_
            intro eb89 eo90 hc91
            simp only [Act.put, List.setIfInBounds_toArray, List.set_cons_succ, List.set_cons_zero]
            refine wpS_load1 (i := 19) (d := some 114) (u := .int .i64 y) rfl (by rfl) rfl rfl (hc91 0 _ rfl) Try.underlying3 rfl rfl ?_
            simp only [Act.put, List.setIfInBounds_toArray, List.set_cons_succ, List.set_cons_zero]
            refine wpS_this [20, 21, 22] rfl (by kernel_rfl) (by simp only [pickL, nthL, List.cons_append, List.nil_append]; rfl) ?_
            repeat (go_big_quiet_step (fail))
            refine wpQuiet_nil ?_
            refine wpS_nil ?_
            refine then_normal ?_
            refine wp_cond_false rfl ?_
            refine wp_skip ?_
            refine block_normal ?_
            refine then_normal ?_
            refine wp_region_N [(0, 1), (1, 1)] (by kernel_rfl) ?_
            refine wpS_this [0, 1] rfl (by kernel_rfl) (by simp only [pickL, nthL, List.cons_append, List.nil_append]; rfl) ?_
            repeat (go_big_quiet_step (fail))
            refine wpQuiet_nil ?_
            refine wpS_nil ?_
            refine then_normal ?_
            refine ⟨by kernel_rfl, ?_⟩
            refine ⟨16 - (p + 1), by omega, p + 1, rfl, rfl, hp1, trivial, (Mem.only (M := [_, _, _, _, _]) HM82.out [0, 0, 0, 0, 0] rfl)⟩
        · clear h70
          refine wp_exit ?_
          refine then_exit (then_exit (block_exit ?_))
          refine then_normal ?_
          refine wp_seq ?_
          refine wp_seq ?_
          have hquo : Hid ((16 : Int) / (cl : Int) = (mv : Int)) := Lib.hid (by rw [← hmq.out]; rfl)
          refine wp_region_M (fun k => k ∈ ([b64, b7] : List Nat)) [(0, 1), (1, 1), (2, 1), (3, 1), (4, 1), (5, 1), (7, 2), (6, 3), (8, 3), (9, 1), (10, 1), (11, 1)] (by kernel_rfl) (by kernel_rfl) HM69.out ?_
          intro W92 hm93
          have HM94 := Lib.hid hm93
          clear hm93
          refine wpS_this [0, 1] rfl (by kernel_rfl) (by simp only [pickL, nthL, List.cons_append, List.nil_append]; rfl) ?_
          repeat (go_big_quiet_step (fail))
          refine wpQuiet_nil ?_
          refine wpS_load1 (i := 2) (d := some 121) (u := .slice pt t.p.2.2.length ct) rfl (by rfl) rfl rfl (HM94.out.sub1 0 rfl (rgC_pl 2 _ rfl)) Try.underlying23 rfl rfl ?_
          simp only [Act.put, List.setIfInBounds_toArray, List.set_cons_succ, List.set_cons_zero]
          refine wpS_this [3, 4] rfl (by kernel_rfl) (by simp only [pickL, nthL, List.cons_append, List.nil_append]; rfl) ?_
          repeat (go_big_quiet_step (fail))
          refine wpQuiet_nil ?_
          refine wpS_load1 (i := 5) (d := some 124) (u := .slice pr r.p.2.2.length cr) rfl (by rfl) rfl rfl (HM94.out.sub1 1 rfl (rgC_pl 2 _ rfl)) Try.underlying23 rfl rfl ?_
          simp only [Act.put, List.setIfInBounds_toArray, List.set_cons_succ, List.set_cons_zero]
          refine wpS_loadA2 (i := 7) (d := some 126) (cells := rgC (t) (.slice pt t.p.2.2.length ct)) rfl (by rfl) rfl rfl (by simp) (HM94.out.sub 0 rfl (fun k u h => by rw [Nat.zero_add]; exact h)) Try.underlying30 rfl (by kernel_rfl) rfl ?_
          simp only [Act.put, List.setIfInBounds_toArray, List.set_cons_succ, List.set_cons_zero]
          refine wpS_does2 (i := 6) (d := some 125) (rem := [_, _, _]) (out := [_, _, _, _, _]) rfl (by rfl) rfl Try.call17 (Does.ofList (moves_d (listT [_, _]) _ _ t.p.2.2 r.p.2.2 (rowL 0 rfl rowOwn) (rowL 1 rfl rowOwn))) rfl rfl HM94.out [2, 2] rfl (covS_box 0 rfl (covS_box 1 rfl covS_nil)) rfl rfl ?_
          rintro W96 hm95 hg97
          rw [hmv.out]
          have HM98 := Lib.hid hm95
          clear hm95
          simp only [Act.put, List.setIfInBounds_toArray, List.set_cons_succ, List.set_cons_zero]
          refine wpS_doesU3 (i := 8) (d := some 127) (rem := [_, _, _, _]) rfl (by rfl) rfl Try.call15 (gof_d (rowT elemI _ _) _ t rowT_reads lt 2 2) rfl rfl rfl HM98.out [0] rfl (covS_box 1 rfl (covS_box 2 rfl covS_nil)) (fun _ => rfl) rfl ?_
          rintro u102 W100 hm99 hg101
          obtain ⟨po, co, rfl⟩ := row_formN hcl2.out (Mem.src hm99 0 rfl rowT_reads)
          have HM103 := Lib.hid hm99
          clear hm99
          simp only [Act.put, List.setIfInBounds_toArray, List.set_cons_succ, List.set_cons_zero]
          refine wpS_this [9] rfl (by kernel_rfl) (by simp only [pickL, nthL, List.cons_append, List.nil_append]; rfl) ?_
          repeat (go_big_quiet_step (fail))
          refine wpQuiet_nil ?_
          refine wpS_this [10] rfl (by kernel_rfl) (by simp only [pickL, nthL, List.cons_append, List.nil_append]; rfl) ?_
          repeat (go_big_quiet_step (fail))
          refine wpQuiet_nil ?_
          rw [hquo.out]
          refine wpS_this [11] rfl (by kernel_rfl) (by simp only [pickL, nthL, List.cons_append, List.nil_append]; rfl) ?_
          repeat (go_big_quiet_step (fail))
          refine wpQuiet_nil ?_
          refine wpS_nil ?_
          refine then_normal ?_
          refine wp_cond_false rfl ?_
          refine wp_skip ?_
          refine then_normal ?_
          refine wp_region_N [(0, 1), (1, 3)] (by kernel_rfl) ?_
          refine wpS_loadA (i := 0) (d := some 131) (cells := rgC (t) (.slice pt t.p.2.2.length ct)) rfl (by rfl) rfl rfl (HM103.out.sub 3 rfl (fun k u h => by rw [Nat.zero_add]; exact h)) Try.underlying30 rfl (by kernel_rfl) rfl ?_
          simp only [Act.put, List.setIfInBounds_toArray, List.set_cons_succ, List.set_cons_zero]
          refine wpS_storeA (i := 1) (L2 := [_, _, _, _, _]) (cs' := rgC (t) (.slice pt t.p.2.2.length ct)) rfl (by rfl) rfl rfl rfl (by kernel_rfl) (rgC_one _ _ _) HM103.out 4 rfl rfl (by kernel_rfl) (by kernel_rfl) covS_nil rfl ?_
          rintro W105 hm104 -
          have HM106 := Lib.hid hm104
          clear hm104
          refine wpS_nil ?_
          refine block_normal ?_
          refine then_normal ?_
          refine wp_region_N [(0, 1), (1, 1)] (by kernel_rfl) ?_
          refine wpS_this [0, 1] rfl (by kernel_rfl) (by simp only [pickL, nthL, List.cons_append, List.nil_append]; rfl) ?_
          repeat (go_big_quiet_step (fail))
          refine wpQuiet_nil ?_
          refine wpS_nil ?_
          refine then_normal ?_
          refine ⟨by kernel_rfl, ?_⟩
          exact ⟨sh.length - (k + 1), by omega, k + 1, v + 1, t, _, _, rfl, rfl, rfl, hk1, hrt.out, (Mem.only (M := [_, _, _]) HM106.out [0, 1, 3] rfl)⟩
    · clear h26
      refine wp_exit ?_
      refine then_exit (then_exit (block_exit ?_))
      refine then_normal ?_
      refine wp_seq ?_
      have hfw : Hid (hvy 0 [⟨r, pr, r.p.2.2.length, cr⟩] = 0) := Lib.hid (by unfold hvy; rw [if_pos (show r.p.2.2.length ≤ 100 by rw [hr16.out]; decide)]; rfl)
      refine wp_region_N [(0, 1), (1, 3), (2, 3), (3, 1), (4, 1), (5, 3), (6, 1), (7, 1)] (by kernel_rfl) ?_
      refine wpS_loadA (i := 0) (d := some 133) (cells := rgC (r) (.slice pr r.p.2.2.length cr)) rfl (by rfl) rfl rfl (HM25.out.sub 0 rfl (fun k u h => by rw [Nat.zero_add]; exact h)) Try.underlying30 rfl (by kernel_rfl) rfl ?_
      simp only [Act.put, List.setIfInBounds_toArray, List.set_cons_succ, List.set_cons_zero]
      refine wpS_buildN elemR (i := 1) (dd := 134) (n := 1) (xs := [⟨r, pr, r.p.2.2.length, cr⟩]) (cs := (rgC r (.slice pr r.p.2.2.length cr) ++ []).toArray) rfl (by rfl) (fun _ => by kernel_rfl) rfl rfl HM25.out covS_nil rfl ?_
      rintro b109 W110 hm111 -
      have HM112 := Lib.hid hm111
      clear hm111
      simp only [Act.put, List.setIfInBounds_toArray, List.set_cons_succ, List.set_cons_zero]
      refine wpS_does1 (i := 2) (d := some 135) (rem := [_, _, _]) (out := [_, _, _, _]) rfl (by rfl) rfl Try.call8 (heavy_d (rowT elemR _ _) _ _ rowOwnE (Nat.le_of_ble_eq_true rfl)) rfl HM112.out [0] rfl covS_nil rfl rfl ?_
      rintro W114 hm113 -
      rw [hfw.out]
      have HM115 := Lib.hid hm113
      clear hm113
      simp only [Act.put, List.setIfInBounds_toArray, List.set_cons_succ, List.set_cons_zero]
      refine wpS_this [3, 4] rfl (by kernel_rfl) (by simp only [pickL, nthL, List.cons_append, List.nil_append]; rfl) ?_
      repeat (go_big_quiet_step (fail))
      refine wpQuiet_nil ?_
      refine wpS_does0 (i := 5) (d := some 138) (rem := [_, _, _, _]) (out := [_, _, _, _]) rfl (by rfl) rfl Try.call9 (lawake_d)  HM115.out [] rfl covS_nil rfl rfl ?_
      rintro W117 hm116 -
      have HM118 := Lib.hid hm116
      clear hm116
      simp only [Act.put, List.setIfInBounds_toArray, List.set_cons_succ, List.set_cons_zero]
      refine wpS_this [6, 7] rfl (by kernel_rfl) (by simp only [pickL, nthL, List.cons_append, List.nil_append]; rfl) ?_
      repeat (go_big_quiet_step (fail))
      refine wpQuiet_nil ?_
      refine wpS_nil ?_
      refine then_normal ?_
      refine wp_ret ?_
      refine bodyPost_ret (results_tmp rfl _ _ _) rfl ?_
      exact does_ret (Mem.only (M := [_]) HM118.out [3] rfl) rfl rfl
  · have g1 : decide (20 < sh.length) = true := decide_eq_true (by omega)
    have g1' : decide ((20 : Int) < (sh.length : Int)) = true := decide_eq_true (by omega)
    clear hl
    refine wp_region_N [(0, 1), (1, 1), (2, 1)] (by kernel_rfl) ?_
    refine wpS_this [0, 1, 2] rfl (by kernel_rfl) (by simp only [pickL, nthL, List.cons_append, List.nil_append]; rfl) ?_
    repeat (go_big_quiet_step (fail))
    refine wpQuiet_nil ?_
    refine wpS_nil ?_
    refine then_normal ?_
    refine wp_cond_true rfl ?_
    refine wp_seq ?_
    refine wp_region_N [(0, 3), (1, 1)] (by kernel_rfl) ?_
    refine wpS_does0 (i := 0) (d := some 17) (rem := [_]) (out := [_]) rfl (by rfl) rfl Try.call9 (lawake_d)  HM0.out [] rfl covS_nil rfl rfl ?_
    rintro W120 hm119 -
    have HM121 := Lib.hid hm119
    clear hm119
    simp only [Act.put, List.setIfInBounds_toArray, List.set_cons_succ, List.set_cons_zero]
    refine wpS_this [1] rfl (by kernel_rfl) (by simp only [pickL, nthL, List.cons_append, List.nil_append]; rfl) ?_
    repeat (go_big_quiet_step (fail))
    refine wpQuiet_nil ?_
    refine wpS_nil ?_
    refine then_normal ?_
    refine wp_ret ?_
    refine then_ret ?_
    refine bodyPost_ret (results_tmp rfl _ _ _) rfl ?_
    exact does_ret (Mem.only (M := [_]) HM121.out [0] rfl) rfl rfl

theorem rowLaw (v0 : Value) (l0 : List Int) (W : World) (h0 : SrcE elemI W v0 l0) (_ : l0.length * elemI.bytes ≤ 140737488351232) : Gives Try.prog 7 #[v0] W (.bool true) := (row_d W v0 l0 h0).givesOld
end Go.Proofs.Ytdfmfcbeebfdhaa
