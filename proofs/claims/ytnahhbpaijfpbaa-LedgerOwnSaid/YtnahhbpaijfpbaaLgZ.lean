/- Ledgers: LedgerOwn. -/
import Derived.Test.YtnahhbpaijfpbaaLgU
import Derived.Test.YtnahhbpaijfpbaaLgW
namespace Go.Proofs.Ytnahhbpaijfpbaa
open Go Go.RowKit Go.BigFrame

theorem Does.ofTwo {pr : Program} {f : FuncId} {args : Array Value} {v : Value} {A A' B C : At} (h : Does pr f args [A, listT [B, C]] v [A', listT [B, C]]) : Does pr f args [A, B, C] v [A', B, C] := fun W H hs => (h W H (star_mono (fun _ h => h) (fun _ h => star_comm (starl_emp h)) hs)).mono fun _ _ ⟨he, hq⟩ => ⟨he, hq.mono fun _ h => star_mono (fun _ h => h) (fun _ h => emp_right h) h⟩
theorem Mem.outOne {B : At} {l L : List At} {H0 : Nat → Prop} {w W : World} (h : Mem (listT (B :: l) :: L) H0 w W) : Mem (B :: listT l :: L) H0 w W := SEnd.mono h fun _ h => star_assoc h
def spoilt : ByteArray := ⟨#[115, 112, 111, 105, 108, 116]⟩
def own1 (d : Dd) : Lg := if mayD d = true then ⟨3, 0, [d]⟩ else ⟨3, 0, []⟩
theorem own_write (d : Dd) : writeL (newL 3) d = (own1 d, if mayD d = true then 0 else 1) := by
  unfold own1
  by_cases h : mayD d = true
  · rw [if_pos h, if_pos h]
    exact write_ok h (by decide)
  · rw [if_neg h, if_neg h]
    exact write_no (by simpa using h)
theorem own_ok (d : Dd) : LgOk (own1 d) := by
  have := (LgOk.new 3).write d
  rwa [own_write] at this
theorem one_rowM {xs : List Dx} {d : Dd} (h : xs.map (fun x => x.d) = [d]) : ∃ x, xs = [x] ∧ x.d = d := one_row h
theorem own_one {d : Dd} {z : Dx} (h : mayD d = true) (hz : z.d = d) : DxR (ownX [z]) z := ownX_reads (xs := [z]) (fun e he => by
  have he : e ∈ [z.d] := he
  rw [List.mem_singleton] at he
  rw [he, hz]
  exact h) z List.mem_cons_self
set_option maxHeartbeats 4000000 in
set_option maxRecDepth 100000 in
theorem own_d (W0 : World) (x : Dx) (sp : Int) (hq' : DdQ W0 x) (hlv' : x.d.b.v.length ≤ 4398046510976) : Does Try.prog 7 #[ddV x.d (.slice x.vp x.vn x.vc) (.slice x.rp x.rn x.rc), .int .i64 sp] [oldT W0] (.bool true) [oldT W0] := by
  intro w H hp
  have HM0 := Lib.hid (mem_refl hp)
  clear hp
  have hvn : Hid (x.vn = x.d.b.v.length) := Lib.hid (by obtain ⟨_, p, c, e, _⟩ := hq'.1; exact (Value.slice.inj e).2.1)
  have hq := Lib.hid hq'
  clear hq'
  have hlv := Lib.hid hlv'
  clear hlv'
  go_enter Try.func7, Try.ntmps7
  refine wp_seq ?_
  refine wp_region_N [(0, 3), (1, 1)] (by kernel_rfl) ?_
  refine wpS_boxA (i := 0) (dd := 2) rfl (by rfl) rfl rfl HM0.out covS_nil rfl ?_
  rintro b3 W2 hm1 -
  have HM4 := Lib.hid hm1
  clear hm1
  simp only [Act.put, List.setIfInBounds_toArray, List.set_cons_succ, List.set_cons_zero]
  refine wpS_this [1] rfl (by kernel_rfl) (by simp only [pickL, nthL, List.cons_append, List.nil_append]; rfl) ?_
  repeat (go_big_quiet_step (fail))
  refine wpQuiet_nil ?_
  refine wpS_nil ?_
  refine then_normal ?_
  refine wp_seq ?_
  refine wp_seq ?_
  obtain ⟨m1, hm1'⟩ := int_letter (heavyV x.d.b.v)
  obtain ⟨m2, hm2'⟩ := int_letter (hvy 0 [(⟨x.d.r, x.rp, x.rn, x.rc⟩ : Hc)])
  have hwm : wtX x = m1 + m2 := by unfold wtX; rw [hm1', hm2']
  have hr1 : (0 ≤ m1 ∧ m1 ≤ 1) ∧ 0 ≤ m2 ∧ m2 ≤ 1 := by rw [← hm1', ← hm2']; exact ⟨heavyV_01 _, hvy_01 _⟩
  obtain ⟨⟨hr1, hr2⟩, hr3, hr4⟩ := hr1
  rcases (show 0 < wtX x ∨ (¬ 0 < wtX x ∧ 200 < x.d.key.size) ∨ (¬ 0 < wtX x ∧ ¬ 200 < x.d.key.size) from by omega) with h3 | ⟨h3, h2⟩ | ⟨h3, h2⟩
  · rw [hwm] at h3
    have g8 : decide (0 < m1 + m2) = true := decide_eq_true h3
    clear hwm
    have hm1 := Lib.hid hm1'
    clear hm1'
    have hm2 := Lib.hid hm2'
    clear hm2'
    replace h3 := Lib.hid h3
    refine wp_cut_F [11, 12, 13, 14, 15, 16, 17, 18, 19, 20, 21, 22, 23, 24, 25, 26] (fun vs W' => vs 26 = .bool true ∧ Mem [boxT b3 (.cells (ddC x.d (.slice x.vp x.vn x.vc) (.slice x.rp x.rn x.rc)).toArray 43 (0, 0)), oldT W0] H w W') ?_ ?_
    · refine wp_region_taken [] (fun k => k ∈ ([b3] : List Nat)) (by kernel_rfl) rfl rfl ?_
      have hm5 := HM4.out.drew
      have HM6 := Lib.hid hm5
      clear hm5
      refine wpT_takeS (i := 0) (by kernel_rfl) (by kernel_rfl) ?_
      refine wpS_stay [0] rfl (by kernel_rfl) (by simp only [pickL, nthL, List.cons_append, List.nil_append]; rfl) ?_
      repeat (go_big_quiet_step (fail))
      refine wpQuiet_nil ?_
      refine wpS_nil ?_
      refine wpT_takeS (i := 1) (by kernel_rfl) (by kernel_rfl) ?_
      refine wpS_loadA2 (i := 1) (d := some 12) (cells := bgC (x.d).b.k (.slice x.vp x.vn x.vc)) rfl (by rfl) rfl rfl (by simp) (HM6.out.part 0 rfl (ddC_bag)) Try.underlying33 rfl (by kernel_rfl) rfl ?_
      simp only [Act.put, List.setIfInBounds_toArray, List.set_cons_succ, List.set_cons_zero]
      refine wpS_nil ?_
      refine wpT_takeS (i := 4) (by kernel_rfl) (by kernel_rfl) ?_
      refine wpS_stay [4] rfl (by kernel_rfl) (by simp only [pickL, nthL, List.cons_append, List.nil_append]; rfl) ?_
      repeat (go_big_quiet_step (fail))
      refine wpQuiet_nil ?_
      refine wpS_nil ?_
      refine wpT_takeS (i := 5) (by kernel_rfl) (by kernel_rfl) ?_
      refine wpS_loadA2 (i := 5) (d := some 16) (cells := rgC (x.d).r (.slice x.rp x.rn x.rc)) rfl (by rfl) rfl rfl (by simp) (HM6.out.part 0 rfl (ddC_ring)) Try.underlying41 rfl (by kernel_rfl) rfl ?_
      simp only [Act.put, List.setIfInBounds_toArray, List.set_cons_succ, List.set_cons_zero]
      refine wpS_nil ?_
      refine wpT_ready 2 [6] (by kernel_rfl) (allT_cons ?_ (allT_cons ?_ allT_nil))
      · refine opT_S (by kernel_rfl) ?_
        refine wpS_buildN elemB (i := 2) (dd := 13) (n := 1) (xs := [⟨x.d.b.k, x.vp, x.vn, x.vc⟩]) (cs := (bgC x.d.b.k (.slice x.vp x.vn x.vc) ++ []).toArray) rfl (by rfl) (fun _ => by kernel_rfl) rfl rfl HM6.out (covS_box 0 rfl covS_nil) rfl ?_
        rintro b10 W11 hm12 hg13
        have HM14 := Lib.hid hm12
        clear hm12
        simp only [Act.put, List.setIfInBounds_toArray, List.set_cons_succ, List.set_cons_zero]
        refine wpS_nil ?_
        refine wpT_ready 3 [6] (by kernel_rfl) (allT_cons ?_ (allT_cons ?_ allT_nil))
        · refine opT_S (by kernel_rfl) ?_
          refine wpS_does1 (i := 3) (d := some 14) (rem := [_]) (out := [_, _, _]) rfl (by rfl) rfl Try.call27 (Does.ofList (bheavy_d (listT [_, _]) _ ⟨x.d.b.k, x.vp, x.vn, x.vc⟩ x.d.b.v (vRowE 0 rfl rowT_reads) (vRowE 1 rfl (vOld hq.out.1)) hvn.out hlv.out)) rfl HM14.out [0, 1] rfl (covS_box 0 rfl covS_nil) rfl rfl ?_
          rintro W16 hm15 hg17
          rw [hm1.out]
          have HM18 := Lib.hid hm15
          clear hm15
          simp only [Act.put, List.setIfInBounds_toArray, List.set_cons_succ, List.set_cons_zero]
          refine wpS_nil ?_
          refine wpT_ready 6 [] (by kernel_rfl) (allT_cons ?_ allT_nil)
          refine opT_S (by kernel_rfl) ?_
          refine wpS_buildN elemR (i := 6) (dd := 17) (n := 1) (xs := [⟨x.d.r, x.rp, x.rn, x.rc⟩]) (cs := (rgC x.d.r (.slice x.rp x.rn x.rc) ++ []).toArray) rfl (by rfl) (fun _ => by kernel_rfl) rfl rfl HM18.out (covS_box 2 rfl covS_nil) rfl ?_
          rintro b22 W23 hm24 hg25
          have HM26 := Lib.hid hm24
          clear hm24
          simp only [Act.put, List.setIfInBounds_toArray, List.set_cons_succ, List.set_cons_zero]
          refine wpS_nil ?_
          refine wpT_ready 7 [] (by kernel_rfl) (allT_cons ?_ allT_nil)
          refine opT_S (by kernel_rfl) ?_
          refine wpS_does1 (i := 7) (d := some 18) (rem := [_, _, _]) (out := [_, _, _, _]) rfl (by rfl) rfl Try.call28 (heavy_d (rowT elemR _ _) _ _ rowOwnE (Nat.le_of_ble_eq_true rfl)) rfl HM26.out [0] rfl (covS_box 2 rfl covS_nil) rfl rfl ?_
          rintro W28 hm27 hg29
          rw [hm2.out]
          have HM30 := Lib.hid hm27
          clear hm27
          simp only [Act.put, List.setIfInBounds_toArray, List.set_cons_succ, List.set_cons_zero]
          refine wpS_nil ?_
          refine wpT_takeS (i := 8) (by kernel_rfl) (by kernel_rfl) ?_
          refine wpS_stay [8] rfl (by kernel_rfl) (by simp only [pickL, nthL, List.cons_append, List.nil_append]; rfl) ?_
          repeat (go_big_quiet_step (fail))
          refine wpQuiet_nil ?_
          refine wpS_nil ?_
          refine wpT_takeS (i := 9) (by kernel_rfl) (by kernel_rfl) ?_
          refine wpS_stay [9] rfl (by kernel_rfl) (by simp only [pickL, nthL, List.cons_append, List.nil_append]; rfl) ?_
          repeat (go_big_quiet_step (fail))
          refine wpQuiet_nil ?_
          refine wpS_nil ?_
          refine wpT_takeS (i := 10) (by kernel_rfl) (by kernel_rfl) ?_
          refine wpS_stay [10] rfl (by kernel_rfl) (by simp only [pickL, nthL, List.cons_append, List.nil_append]; rfl) ?_
          repeat (go_big_quiet_step (fail))
          refine wpQuiet_nil ?_
          refine wpS_nil ?_
          refine wpT_takeS (i := 11) (by kernel_rfl) (by kernel_rfl) ?_
          refine wpS_stay [11] rfl (by kernel_rfl) (by simp only [pickL, nthL, List.cons_append, List.nil_append]; rfl) ?_
          repeat (go_big_quiet_step (fail))
          refine wpQuiet_nil ?_
          refine wpS_nil ?_
          refine wpT_takeS (i := 12) (by kernel_rfl) (by kernel_rfl) ?_
          refine wpS_skip (i := 12) (d := some 23) rfl (by rfl) rfl ?_
          simp only [Act.put, List.setIfInBounds_toArray, List.set_cons_succ, List.set_cons_zero]
          refine wpS_nil ?_
          refine wpT_takeS (i := 13) (by kernel_rfl) (by kernel_rfl) ?_
          refine wpS_stay [13] rfl (by kernel_rfl) (by simp only [pickL, nthL, List.cons_append, List.nil_append]; rfl) ?_
          repeat (go_big_quiet_step (fail))
          refine wpQuiet_nil ?_
          refine wpS_nil ?_
          refine wpT_takeS (i := 14) (by kernel_rfl) (by kernel_rfl) ?_
          refine wpS_stay [14] rfl (by kernel_rfl) (by simp only [pickL, nthL, List.cons_append, List.nil_append]; rfl) ?_
          repeat (go_big_quiet_step (fail))
          refine wpQuiet_nil ?_
          refine wpS_nil ?_
          refine wpT_takeS (i := 15) (by kernel_rfl) (by kernel_rfl) ?_
          refine wpS_stay [15] rfl (by kernel_rfl) (by simp only [pickL, nthL, List.cons_append, List.nil_append]; rfl) ?_
          repeat (go_big_quiet_step (fail))
          refine wpQuiet_nil ?_
          refine wpS_nil ?_
          refine wpT_end (by kernel_rfl) ?_
          refine then_normal ?_
          refine ⟨by kernel_rfl, ?_⟩
          exact ⟨rfl, (Mem.only (M := [_, _]) HM30.out [3, 2] rfl)⟩
        · refine opT_S (by kernel_rfl) ?_
          refine wpS_buildN elemR (i := 6) (dd := 17) (n := 1) (xs := [⟨x.d.r, x.rp, x.rn, x.rc⟩]) (cs := (rgC x.d.r (.slice x.rp x.rn x.rc) ++ []).toArray) rfl (by rfl) (fun _ => by kernel_rfl) rfl rfl HM14.out (covS_box 1 rfl covS_nil) rfl ?_
          rintro b34 W35 hm36 hg37
          have HM38 := Lib.hid hm36
          clear hm36
          simp only [Act.put, List.setIfInBounds_toArray, List.set_cons_succ, List.set_cons_zero]
          refine wpS_nil ?_
          refine wpT_ready 3 [] (by kernel_rfl) (allT_cons ?_ allT_nil)
          refine opT_S (by kernel_rfl) ?_
          refine wpS_does1 (i := 3) (d := some 14) (rem := [_, _]) (out := [_, _, _, _]) rfl (by rfl) rfl Try.call27 (Does.ofList (bheavy_d (listT [_, _]) _ ⟨x.d.b.k, x.vp, x.vn, x.vc⟩ x.d.b.v (vRowE 0 rfl rowT_reads) (vRowE 1 rfl (vOld hq.out.1)) hvn.out hlv.out)) rfl HM38.out [1, 2] rfl (covS_box 1 rfl covS_nil) rfl rfl ?_
          rintro W40 hm39 hg41
          rw [hm1.out]
          have HM42 := Lib.hid hm39
          clear hm39
          simp only [Act.put, List.setIfInBounds_toArray, List.set_cons_succ, List.set_cons_zero]
          refine wpS_nil ?_
          refine wpT_ready 7 [] (by kernel_rfl) (allT_cons ?_ allT_nil)
          refine opT_S (by kernel_rfl) ?_
          refine wpS_does1 (i := 7) (d := some 18) (rem := [_, _, _]) (out := [_, _, _, _]) rfl (by rfl) rfl Try.call28 (heavy_d (rowT elemR _ _) _ _ rowOwnE (Nat.le_of_ble_eq_true rfl)) rfl HM42.out [2] rfl (covS_box 2 rfl covS_nil) rfl rfl ?_
          rintro W44 hm43 hg45
          rw [hm2.out]
          have HM46 := Lib.hid hm43
          clear hm43
          simp only [Act.put, List.setIfInBounds_toArray, List.set_cons_succ, List.set_cons_zero]
          refine wpS_nil ?_
          refine wpT_takeS (i := 8) (by kernel_rfl) (by kernel_rfl) ?_
          refine wpS_stay [8] rfl (by kernel_rfl) (by simp only [pickL, nthL, List.cons_append, List.nil_append]; rfl) ?_
          repeat (go_big_quiet_step (fail))
          refine wpQuiet_nil ?_
          refine wpS_nil ?_
          refine wpT_takeS (i := 9) (by kernel_rfl) (by kernel_rfl) ?_
          refine wpS_stay [9] rfl (by kernel_rfl) (by simp only [pickL, nthL, List.cons_append, List.nil_append]; rfl) ?_
          repeat (go_big_quiet_step (fail))
          refine wpQuiet_nil ?_
          refine wpS_nil ?_
          refine wpT_takeS (i := 10) (by kernel_rfl) (by kernel_rfl) ?_
          refine wpS_stay [10] rfl (by kernel_rfl) (by simp only [pickL, nthL, List.cons_append, List.nil_append]; rfl) ?_
          repeat (go_big_quiet_step (fail))
          refine wpQuiet_nil ?_
          refine wpS_nil ?_
          refine wpT_takeS (i := 11) (by kernel_rfl) (by kernel_rfl) ?_
          refine wpS_stay [11] rfl (by kernel_rfl) (by simp only [pickL, nthL, List.cons_append, List.nil_append]; rfl) ?_
          repeat (go_big_quiet_step (fail))
          refine wpQuiet_nil ?_
          refine wpS_nil ?_
          refine wpT_takeS (i := 12) (by kernel_rfl) (by kernel_rfl) ?_
          refine wpS_skip (i := 12) (d := some 23) rfl (by rfl) rfl ?_
          simp only [Act.put, List.setIfInBounds_toArray, List.set_cons_succ, List.set_cons_zero]
          refine wpS_nil ?_
          refine wpT_takeS (i := 13) (by kernel_rfl) (by kernel_rfl) ?_
          refine wpS_stay [13] rfl (by kernel_rfl) (by simp only [pickL, nthL, List.cons_append, List.nil_append]; rfl) ?_
          repeat (go_big_quiet_step (fail))
          refine wpQuiet_nil ?_
          refine wpS_nil ?_
          refine wpT_takeS (i := 14) (by kernel_rfl) (by kernel_rfl) ?_
          refine wpS_stay [14] rfl (by kernel_rfl) (by simp only [pickL, nthL, List.cons_append, List.nil_append]; rfl) ?_
          repeat (go_big_quiet_step (fail))
          refine wpQuiet_nil ?_
          refine wpS_nil ?_
          refine wpT_takeS (i := 15) (by kernel_rfl) (by kernel_rfl) ?_
          refine wpS_stay [15] rfl (by kernel_rfl) (by simp only [pickL, nthL, List.cons_append, List.nil_append]; rfl) ?_
          repeat (go_big_quiet_step (fail))
          refine wpQuiet_nil ?_
          refine wpS_nil ?_
          refine wpT_end (by kernel_rfl) ?_
          refine then_normal ?_
          refine ⟨by kernel_rfl, ?_⟩
          exact ⟨rfl, (Mem.only (M := [_, _]) HM46.out [3, 2] rfl)⟩
      · refine opT_S (by kernel_rfl) ?_
        refine wpS_buildN elemR (i := 6) (dd := 17) (n := 1) (xs := [⟨x.d.r, x.rp, x.rn, x.rc⟩]) (cs := (rgC x.d.r (.slice x.rp x.rn x.rc) ++ []).toArray) rfl (by rfl) (fun _ => by kernel_rfl) rfl rfl HM6.out (covS_box 0 rfl covS_nil) rfl ?_
        rintro b50 W51 hm52 hg53
        have HM54 := Lib.hid hm52
        clear hm52
        simp only [Act.put, List.setIfInBounds_toArray, List.set_cons_succ, List.set_cons_zero]
        refine wpS_nil ?_
        refine wpT_ready 2 [] (by kernel_rfl) (allT_cons ?_ allT_nil)
        refine opT_S (by kernel_rfl) ?_
        refine wpS_buildN elemB (i := 2) (dd := 13) (n := 1) (xs := [⟨x.d.b.k, x.vp, x.vn, x.vc⟩]) (cs := (bgC x.d.b.k (.slice x.vp x.vn x.vc) ++ []).toArray) rfl (by rfl) (fun _ => by kernel_rfl) rfl rfl HM54.out (covS_box 1 rfl covS_nil) rfl ?_
        rintro b58 W59 hm60 hg61
        have HM62 := Lib.hid hm60
        clear hm60
        simp only [Act.put, List.setIfInBounds_toArray, List.set_cons_succ, List.set_cons_zero]
        refine wpS_nil ?_
        refine wpT_ready 3 [] (by kernel_rfl) (allT_cons ?_ allT_nil)
        refine opT_S (by kernel_rfl) ?_
        refine wpS_does1 (i := 3) (d := some 14) (rem := [_, _]) (out := [_, _, _, _]) rfl (by rfl) rfl Try.call27 (Does.ofList (bheavy_d (listT [_, _]) _ ⟨x.d.b.k, x.vp, x.vn, x.vc⟩ x.d.b.v (vRowE 0 rfl rowT_reads) (vRowE 1 rfl (vOld hq.out.1)) hvn.out hlv.out)) rfl HM62.out [0, 2] rfl (covS_box 1 rfl covS_nil) rfl rfl ?_
        rintro W64 hm63 hg65
        rw [hm1.out]
        have HM66 := Lib.hid hm63
        clear hm63
        simp only [Act.put, List.setIfInBounds_toArray, List.set_cons_succ, List.set_cons_zero]
        refine wpS_nil ?_
        refine wpT_ready 7 [] (by kernel_rfl) (allT_cons ?_ allT_nil)
        refine opT_S (by kernel_rfl) ?_
        refine wpS_does1 (i := 7) (d := some 18) (rem := [_, _, _]) (out := [_, _, _, _]) rfl (by rfl) rfl Try.call28 (heavy_d (rowT elemR _ _) _ _ rowOwnE (Nat.le_of_ble_eq_true rfl)) rfl HM66.out [2] rfl (covS_box 2 rfl covS_nil) rfl rfl ?_
        rintro W68 hm67 hg69
        rw [hm2.out]
        have HM70 := Lib.hid hm67
        clear hm67
        simp only [Act.put, List.setIfInBounds_toArray, List.set_cons_succ, List.set_cons_zero]
        refine wpS_nil ?_
        refine wpT_takeS (i := 8) (by kernel_rfl) (by kernel_rfl) ?_
        refine wpS_stay [8] rfl (by kernel_rfl) (by simp only [pickL, nthL, List.cons_append, List.nil_append]; rfl) ?_
        repeat (go_big_quiet_step (fail))
        refine wpQuiet_nil ?_
        refine wpS_nil ?_
        refine wpT_takeS (i := 9) (by kernel_rfl) (by kernel_rfl) ?_
        refine wpS_stay [9] rfl (by kernel_rfl) (by simp only [pickL, nthL, List.cons_append, List.nil_append]; rfl) ?_
        repeat (go_big_quiet_step (fail))
        refine wpQuiet_nil ?_
        refine wpS_nil ?_
        refine wpT_takeS (i := 10) (by kernel_rfl) (by kernel_rfl) ?_
        refine wpS_stay [10] rfl (by kernel_rfl) (by simp only [pickL, nthL, List.cons_append, List.nil_append]; rfl) ?_
        repeat (go_big_quiet_step (fail))
        refine wpQuiet_nil ?_
        refine wpS_nil ?_
        refine wpT_takeS (i := 11) (by kernel_rfl) (by kernel_rfl) ?_
        refine wpS_stay [11] rfl (by kernel_rfl) (by simp only [pickL, nthL, List.cons_append, List.nil_append]; rfl) ?_
        repeat (go_big_quiet_step (fail))
        refine wpQuiet_nil ?_
        refine wpS_nil ?_
        refine wpT_takeS (i := 12) (by kernel_rfl) (by kernel_rfl) ?_
        refine wpS_skip (i := 12) (d := some 23) rfl (by rfl) rfl ?_
        simp only [Act.put, List.setIfInBounds_toArray, List.set_cons_succ, List.set_cons_zero]
        refine wpS_nil ?_
        refine wpT_takeS (i := 13) (by kernel_rfl) (by kernel_rfl) ?_
        refine wpS_stay [13] rfl (by kernel_rfl) (by simp only [pickL, nthL, List.cons_append, List.nil_append]; rfl) ?_
        repeat (go_big_quiet_step (fail))
        refine wpQuiet_nil ?_
        refine wpS_nil ?_
        refine wpT_takeS (i := 14) (by kernel_rfl) (by kernel_rfl) ?_
        refine wpS_stay [14] rfl (by kernel_rfl) (by simp only [pickL, nthL, List.cons_append, List.nil_append]; rfl) ?_
        repeat (go_big_quiet_step (fail))
        refine wpQuiet_nil ?_
        refine wpS_nil ?_
        refine wpT_takeS (i := 15) (by kernel_rfl) (by kernel_rfl) ?_
        refine wpS_stay [15] rfl (by kernel_rfl) (by simp only [pickL, nthL, List.cons_append, List.nil_append]; rfl) ?_
        repeat (go_big_quiet_step (fail))
        refine wpQuiet_nil ?_
        refine wpS_nil ?_
        refine wpT_end (by kernel_rfl) ?_
        refine then_normal ?_
        refine ⟨by kernel_rfl, ?_⟩
        exact ⟨rfl, (Mem.only (M := [_, _]) HM70.out [3, 2] rfl)⟩
    rintro vs W' ⟨e26, hm⟩
    simp only [putAll, List.map_cons, List.map_nil, Act.put, List.setIfInBounds_toArray, List.set_cons_succ, List.set_cons_zero]
    rw [e26]
    clear e26
    have HM71 := Lib.hid hm
    clear hm
    refine then_normal ?_
    refine wp_cond_true rfl ?_
    refine wp_seq ?_
    refine wp_region_N [(0, 3), (1, 1)] (by kernel_rfl) ?_
    refine wpS_does0 (i := 0) (d := some 27) (rem := [_, _]) (out := [_, _]) rfl (by rfl) rfl Try.call9 (awake_d)  HM71.out [] rfl covS_nil rfl rfl ?_
    rintro W73 hm72 -
    have HM74 := Lib.hid hm72
    clear hm72
    simp only [Act.put, List.setIfInBounds_toArray, List.set_cons_succ, List.set_cons_zero]
    refine wpS_this [1] rfl (by kernel_rfl) (by simp only [pickL, nthL, List.cons_append, List.nil_append]; rfl) ?_
    repeat (go_big_quiet_step (fail))
    refine wpQuiet_nil ?_
    refine wpS_nil ?_
    refine then_normal ?_
    refine wp_ret ?_
    refine then_ret ?_
    refine bodyPost_ret (results_tmp rfl _ _ _) rfl ?_
    exact does_ret (Mem.only (M := [_]) HM74.out [1] rfl) rfl rfl
  · rw [hwm] at h3
    have g8 : decide (0 < m1 + m2) = false := decide_eq_false h3
    clear hwm
    have g7 : decide ((200 : Int) < (x.d.key.size : Int)) = true := decide_eq_true (by omega)
    have g7' : decide (200 < x.d.key.size) = true := decide_eq_true h2
    have hm1 := Lib.hid hm1'
    clear hm1'
    have hm2 := Lib.hid hm2'
    clear hm2'
    replace h2 := Lib.hid h2
    replace h3 := Lib.hid h3
    refine wp_cut_F [11, 12, 13, 14, 15, 16, 17, 18, 19, 20, 21, 22, 23, 24, 25, 26] (fun vs W' => vs 26 = .bool true ∧ Mem [boxT b3 (.cells (ddC x.d (.slice x.vp x.vn x.vc) (.slice x.rp x.rn x.rc)).toArray 43 (0, 0)), oldT W0] H w W') ?_ ?_
    · refine wp_region_taken [] (fun k => k ∈ ([b3] : List Nat)) (by kernel_rfl) rfl rfl ?_
      have hm75 := HM4.out.drew
      have HM76 := Lib.hid hm75
      clear hm75
      refine wpT_takeS (i := 0) (by kernel_rfl) (by kernel_rfl) ?_
      refine wpS_stay [0] rfl (by kernel_rfl) (by simp only [pickL, nthL, List.cons_append, List.nil_append]; rfl) ?_
      repeat (go_big_quiet_step (fail))
      refine wpQuiet_nil ?_
      refine wpS_nil ?_
      refine wpT_takeS (i := 1) (by kernel_rfl) (by kernel_rfl) ?_
      refine wpS_loadA2 (i := 1) (d := some 12) (cells := bgC (x.d).b.k (.slice x.vp x.vn x.vc)) rfl (by rfl) rfl rfl (by simp) (HM76.out.part 0 rfl (ddC_bag)) Try.underlying33 rfl (by kernel_rfl) rfl ?_
      simp only [Act.put, List.setIfInBounds_toArray, List.set_cons_succ, List.set_cons_zero]
      refine wpS_nil ?_
      refine wpT_takeS (i := 4) (by kernel_rfl) (by kernel_rfl) ?_
      refine wpS_stay [4] rfl (by kernel_rfl) (by simp only [pickL, nthL, List.cons_append, List.nil_append]; rfl) ?_
      repeat (go_big_quiet_step (fail))
      refine wpQuiet_nil ?_
      refine wpS_nil ?_
      refine wpT_takeS (i := 5) (by kernel_rfl) (by kernel_rfl) ?_
      refine wpS_loadA2 (i := 5) (d := some 16) (cells := rgC (x.d).r (.slice x.rp x.rn x.rc)) rfl (by rfl) rfl rfl (by simp) (HM76.out.part 0 rfl (ddC_ring)) Try.underlying41 rfl (by kernel_rfl) rfl ?_
      simp only [Act.put, List.setIfInBounds_toArray, List.set_cons_succ, List.set_cons_zero]
      refine wpS_nil ?_
      refine wpT_ready 2 [6] (by kernel_rfl) (allT_cons ?_ (allT_cons ?_ allT_nil))
      · refine opT_S (by kernel_rfl) ?_
        refine wpS_buildN elemB (i := 2) (dd := 13) (n := 1) (xs := [⟨x.d.b.k, x.vp, x.vn, x.vc⟩]) (cs := (bgC x.d.b.k (.slice x.vp x.vn x.vc) ++ []).toArray) rfl (by rfl) (fun _ => by kernel_rfl) rfl rfl HM76.out (covS_box 0 rfl covS_nil) rfl ?_
        rintro b80 W81 hm82 hg83
        have HM84 := Lib.hid hm82
        clear hm82
        simp only [Act.put, List.setIfInBounds_toArray, List.set_cons_succ, List.set_cons_zero]
        refine wpS_nil ?_
        refine wpT_ready 3 [6] (by kernel_rfl) (allT_cons ?_ (allT_cons ?_ allT_nil))
        · refine opT_S (by kernel_rfl) ?_
          refine wpS_does1 (i := 3) (d := some 14) (rem := [_]) (out := [_, _, _]) rfl (by rfl) rfl Try.call27 (Does.ofList (bheavy_d (listT [_, _]) _ ⟨x.d.b.k, x.vp, x.vn, x.vc⟩ x.d.b.v (vRowE 0 rfl rowT_reads) (vRowE 1 rfl (vOld hq.out.1)) hvn.out hlv.out)) rfl HM84.out [0, 1] rfl (covS_box 0 rfl covS_nil) rfl rfl ?_
          rintro W86 hm85 hg87
          rw [hm1.out]
          have HM88 := Lib.hid hm85
          clear hm85
          simp only [Act.put, List.setIfInBounds_toArray, List.set_cons_succ, List.set_cons_zero]
          refine wpS_nil ?_
          refine wpT_ready 6 [] (by kernel_rfl) (allT_cons ?_ allT_nil)
          refine opT_S (by kernel_rfl) ?_
          refine wpS_buildN elemR (i := 6) (dd := 17) (n := 1) (xs := [⟨x.d.r, x.rp, x.rn, x.rc⟩]) (cs := (rgC x.d.r (.slice x.rp x.rn x.rc) ++ []).toArray) rfl (by rfl) (fun _ => by kernel_rfl) rfl rfl HM88.out (covS_box 2 rfl covS_nil) rfl ?_
          rintro b92 W93 hm94 hg95
          have HM96 := Lib.hid hm94
          clear hm94
          simp only [Act.put, List.setIfInBounds_toArray, List.set_cons_succ, List.set_cons_zero]
          refine wpS_nil ?_
          refine wpT_ready 7 [] (by kernel_rfl) (allT_cons ?_ allT_nil)
          refine opT_S (by kernel_rfl) ?_
          refine wpS_does1 (i := 7) (d := some 18) (rem := [_, _, _]) (out := [_, _, _, _]) rfl (by rfl) rfl Try.call28 (heavy_d (rowT elemR _ _) _ _ rowOwnE (Nat.le_of_ble_eq_true rfl)) rfl HM96.out [0] rfl (covS_box 2 rfl covS_nil) rfl rfl ?_
          rintro W98 hm97 hg99
          rw [hm2.out]
          have HM100 := Lib.hid hm97
          clear hm97
          simp only [Act.put, List.setIfInBounds_toArray, List.set_cons_succ, List.set_cons_zero]
          refine wpS_nil ?_
          refine wpT_takeS (i := 8) (by kernel_rfl) (by kernel_rfl) ?_
          refine wpS_stay [8] rfl (by kernel_rfl) (by simp only [pickL, nthL, List.cons_append, List.nil_append]; rfl) ?_
          repeat (go_big_quiet_step (fail))
          refine wpQuiet_nil ?_
          refine wpS_nil ?_
          refine wpT_takeS (i := 9) (by kernel_rfl) (by kernel_rfl) ?_
          refine wpS_stay [9] rfl (by kernel_rfl) (by simp only [pickL, nthL, List.cons_append, List.nil_append]; rfl) ?_
          repeat (go_big_quiet_step (fail))
          refine wpQuiet_nil ?_
          refine wpS_nil ?_
          refine wpT_takeS (i := 10) (by kernel_rfl) (by kernel_rfl) ?_
          refine wpS_stay [10] rfl (by kernel_rfl) (by simp only [pickL, nthL, List.cons_append, List.nil_append]; rfl) ?_
          repeat (go_big_quiet_step (fail))
          refine wpQuiet_nil ?_
          refine wpS_nil ?_
          refine wpT_takeS (i := 11) (by kernel_rfl) (by kernel_rfl) ?_
          refine wpS_stay [11] rfl (by kernel_rfl) (by simp only [pickL, nthL, List.cons_append, List.nil_append]; rfl) ?_
          repeat (go_big_quiet_step (fail))
          refine wpQuiet_nil ?_
          refine wpS_nil ?_
          refine wpT_takeS (i := 12) (by kernel_rfl) (by kernel_rfl) ?_
          refine wpS_load12 (i := 12) (d := some 23) (u := .string (x.d).key) rfl (by rfl) rfl rfl (by simp) (HM100.out.part1 3 rfl rfl) Try.underlying9 rfl rfl ?_
          simp only [Act.put, List.setIfInBounds_toArray, List.set_cons_succ, List.set_cons_zero]
          refine wpS_nil ?_
          refine wpT_takeS (i := 13) (by kernel_rfl) (by kernel_rfl) ?_
          refine wpS_stay [13] rfl (by kernel_rfl) (by simp only [pickL, nthL, List.cons_append, List.nil_append]; rfl) ?_
          repeat (go_big_quiet_step (fail))
          refine wpQuiet_nil ?_
          refine wpS_nil ?_
          refine wpT_takeS (i := 14) (by kernel_rfl) (by kernel_rfl) ?_
          refine wpS_stay [14] rfl (by kernel_rfl) (by simp only [pickL, nthL, List.cons_append, List.nil_append]; rfl) ?_
          repeat (go_big_quiet_step (fail))
          refine wpQuiet_nil ?_
          refine wpS_nil ?_
          refine wpT_takeS (i := 15) (by kernel_rfl) (by kernel_rfl) ?_
          refine wpS_stay [15] rfl (by kernel_rfl) (by simp only [pickL, nthL, List.cons_append, List.nil_append]; rfl) ?_
          repeat (go_big_quiet_step (fail))
          refine wpQuiet_nil ?_
          refine wpS_nil ?_
          refine wpT_end (by kernel_rfl) ?_
          refine then_normal ?_
          refine ⟨by kernel_rfl, ?_⟩
          exact ⟨rfl, (Mem.only (M := [_, _]) HM100.out [3, 2] rfl)⟩
        · refine opT_S (by kernel_rfl) ?_
          refine wpS_buildN elemR (i := 6) (dd := 17) (n := 1) (xs := [⟨x.d.r, x.rp, x.rn, x.rc⟩]) (cs := (rgC x.d.r (.slice x.rp x.rn x.rc) ++ []).toArray) rfl (by rfl) (fun _ => by kernel_rfl) rfl rfl HM84.out (covS_box 1 rfl covS_nil) rfl ?_
          rintro b104 W105 hm106 hg107
          have HM108 := Lib.hid hm106
          clear hm106
          simp only [Act.put, List.setIfInBounds_toArray, List.set_cons_succ, List.set_cons_zero]
          refine wpS_nil ?_
          refine wpT_ready 3 [] (by kernel_rfl) (allT_cons ?_ allT_nil)
          refine opT_S (by kernel_rfl) ?_
          refine wpS_does1 (i := 3) (d := some 14) (rem := [_, _]) (out := [_, _, _, _]) rfl (by rfl) rfl Try.call27 (Does.ofList (bheavy_d (listT [_, _]) _ ⟨x.d.b.k, x.vp, x.vn, x.vc⟩ x.d.b.v (vRowE 0 rfl rowT_reads) (vRowE 1 rfl (vOld hq.out.1)) hvn.out hlv.out)) rfl HM108.out [1, 2] rfl (covS_box 1 rfl covS_nil) rfl rfl ?_
          rintro W110 hm109 hg111
          rw [hm1.out]
          have HM112 := Lib.hid hm109
          clear hm109
          simp only [Act.put, List.setIfInBounds_toArray, List.set_cons_succ, List.set_cons_zero]
          refine wpS_nil ?_
          refine wpT_ready 7 [] (by kernel_rfl) (allT_cons ?_ allT_nil)
          refine opT_S (by kernel_rfl) ?_
          refine wpS_does1 (i := 7) (d := some 18) (rem := [_, _, _]) (out := [_, _, _, _]) rfl (by rfl) rfl Try.call28 (heavy_d (rowT elemR _ _) _ _ rowOwnE (Nat.le_of_ble_eq_true rfl)) rfl HM112.out [2] rfl (covS_box 2 rfl covS_nil) rfl rfl ?_
          rintro W114 hm113 hg115
          rw [hm2.out]
          have HM116 := Lib.hid hm113
          clear hm113
          simp only [Act.put, List.setIfInBounds_toArray, List.set_cons_succ, List.set_cons_zero]
          refine wpS_nil ?_
          refine wpT_takeS (i := 8) (by kernel_rfl) (by kernel_rfl) ?_
          refine wpS_stay [8] rfl (by kernel_rfl) (by simp only [pickL, nthL, List.cons_append, List.nil_append]; rfl) ?_
          repeat (go_big_quiet_step (fail))
          refine wpQuiet_nil ?_
          refine wpS_nil ?_
          refine wpT_takeS (i := 9) (by kernel_rfl) (by kernel_rfl) ?_
          refine wpS_stay [9] rfl (by kernel_rfl) (by simp only [pickL, nthL, List.cons_append, List.nil_append]; rfl) ?_
          repeat (go_big_quiet_step (fail))
          refine wpQuiet_nil ?_
          refine wpS_nil ?_
          refine wpT_takeS (i := 10) (by kernel_rfl) (by kernel_rfl) ?_
          refine wpS_stay [10] rfl (by kernel_rfl) (by simp only [pickL, nthL, List.cons_append, List.nil_append]; rfl) ?_
          repeat (go_big_quiet_step (fail))
          refine wpQuiet_nil ?_
          refine wpS_nil ?_
          refine wpT_takeS (i := 11) (by kernel_rfl) (by kernel_rfl) ?_
          refine wpS_stay [11] rfl (by kernel_rfl) (by simp only [pickL, nthL, List.cons_append, List.nil_append]; rfl) ?_
          repeat (go_big_quiet_step (fail))
          refine wpQuiet_nil ?_
          refine wpS_nil ?_
          refine wpT_takeS (i := 12) (by kernel_rfl) (by kernel_rfl) ?_
          refine wpS_load12 (i := 12) (d := some 23) (u := .string (x.d).key) rfl (by rfl) rfl rfl (by simp) (HM116.out.part1 3 rfl rfl) Try.underlying9 rfl rfl ?_
          simp only [Act.put, List.setIfInBounds_toArray, List.set_cons_succ, List.set_cons_zero]
          refine wpS_nil ?_
          refine wpT_takeS (i := 13) (by kernel_rfl) (by kernel_rfl) ?_
          refine wpS_stay [13] rfl (by kernel_rfl) (by simp only [pickL, nthL, List.cons_append, List.nil_append]; rfl) ?_
          repeat (go_big_quiet_step (fail))
          refine wpQuiet_nil ?_
          refine wpS_nil ?_
          refine wpT_takeS (i := 14) (by kernel_rfl) (by kernel_rfl) ?_
          refine wpS_stay [14] rfl (by kernel_rfl) (by simp only [pickL, nthL, List.cons_append, List.nil_append]; rfl) ?_
          repeat (go_big_quiet_step (fail))
          refine wpQuiet_nil ?_
          refine wpS_nil ?_
          refine wpT_takeS (i := 15) (by kernel_rfl) (by kernel_rfl) ?_
          refine wpS_stay [15] rfl (by kernel_rfl) (by simp only [pickL, nthL, List.cons_append, List.nil_append]; rfl) ?_
          repeat (go_big_quiet_step (fail))
          refine wpQuiet_nil ?_
          refine wpS_nil ?_
          refine wpT_end (by kernel_rfl) ?_
          refine then_normal ?_
          refine ⟨by kernel_rfl, ?_⟩
          exact ⟨rfl, (Mem.only (M := [_, _]) HM116.out [3, 2] rfl)⟩
      · refine opT_S (by kernel_rfl) ?_
        refine wpS_buildN elemR (i := 6) (dd := 17) (n := 1) (xs := [⟨x.d.r, x.rp, x.rn, x.rc⟩]) (cs := (rgC x.d.r (.slice x.rp x.rn x.rc) ++ []).toArray) rfl (by rfl) (fun _ => by kernel_rfl) rfl rfl HM76.out (covS_box 0 rfl covS_nil) rfl ?_
        rintro b120 W121 hm122 hg123
        have HM124 := Lib.hid hm122
        clear hm122
        simp only [Act.put, List.setIfInBounds_toArray, List.set_cons_succ, List.set_cons_zero]
        refine wpS_nil ?_
        refine wpT_ready 2 [] (by kernel_rfl) (allT_cons ?_ allT_nil)
        refine opT_S (by kernel_rfl) ?_
        refine wpS_buildN elemB (i := 2) (dd := 13) (n := 1) (xs := [⟨x.d.b.k, x.vp, x.vn, x.vc⟩]) (cs := (bgC x.d.b.k (.slice x.vp x.vn x.vc) ++ []).toArray) rfl (by rfl) (fun _ => by kernel_rfl) rfl rfl HM124.out (covS_box 1 rfl covS_nil) rfl ?_
        rintro b128 W129 hm130 hg131
        have HM132 := Lib.hid hm130
        clear hm130
        simp only [Act.put, List.setIfInBounds_toArray, List.set_cons_succ, List.set_cons_zero]
        refine wpS_nil ?_
        refine wpT_ready 3 [] (by kernel_rfl) (allT_cons ?_ allT_nil)
        refine opT_S (by kernel_rfl) ?_
        refine wpS_does1 (i := 3) (d := some 14) (rem := [_, _]) (out := [_, _, _, _]) rfl (by rfl) rfl Try.call27 (Does.ofList (bheavy_d (listT [_, _]) _ ⟨x.d.b.k, x.vp, x.vn, x.vc⟩ x.d.b.v (vRowE 0 rfl rowT_reads) (vRowE 1 rfl (vOld hq.out.1)) hvn.out hlv.out)) rfl HM132.out [0, 2] rfl (covS_box 1 rfl covS_nil) rfl rfl ?_
        rintro W134 hm133 hg135
        rw [hm1.out]
        have HM136 := Lib.hid hm133
        clear hm133
        simp only [Act.put, List.setIfInBounds_toArray, List.set_cons_succ, List.set_cons_zero]
        refine wpS_nil ?_
        refine wpT_ready 7 [] (by kernel_rfl) (allT_cons ?_ allT_nil)
        refine opT_S (by kernel_rfl) ?_
        refine wpS_does1 (i := 7) (d := some 18) (rem := [_, _, _]) (out := [_, _, _, _]) rfl (by rfl) rfl Try.call28 (heavy_d (rowT elemR _ _) _ _ rowOwnE (Nat.le_of_ble_eq_true rfl)) rfl HM136.out [2] rfl (covS_box 2 rfl covS_nil) rfl rfl ?_
        rintro W138 hm137 hg139
        rw [hm2.out]
        have HM140 := Lib.hid hm137
        clear hm137
        simp only [Act.put, List.setIfInBounds_toArray, List.set_cons_succ, List.set_cons_zero]
        refine wpS_nil ?_
        refine wpT_takeS (i := 8) (by kernel_rfl) (by kernel_rfl) ?_
        refine wpS_stay [8] rfl (by kernel_rfl) (by simp only [pickL, nthL, List.cons_append, List.nil_append]; rfl) ?_
        repeat (go_big_quiet_step (fail))
        refine wpQuiet_nil ?_
        refine wpS_nil ?_
        refine wpT_takeS (i := 9) (by kernel_rfl) (by kernel_rfl) ?_
        refine wpS_stay [9] rfl (by kernel_rfl) (by simp only [pickL, nthL, List.cons_append, List.nil_append]; rfl) ?_
        repeat (go_big_quiet_step (fail))
        refine wpQuiet_nil ?_
        refine wpS_nil ?_
        refine wpT_takeS (i := 10) (by kernel_rfl) (by kernel_rfl) ?_
        refine wpS_stay [10] rfl (by kernel_rfl) (by simp only [pickL, nthL, List.cons_append, List.nil_append]; rfl) ?_
        repeat (go_big_quiet_step (fail))
        refine wpQuiet_nil ?_
        refine wpS_nil ?_
        refine wpT_takeS (i := 11) (by kernel_rfl) (by kernel_rfl) ?_
        refine wpS_stay [11] rfl (by kernel_rfl) (by simp only [pickL, nthL, List.cons_append, List.nil_append]; rfl) ?_
        repeat (go_big_quiet_step (fail))
        refine wpQuiet_nil ?_
        refine wpS_nil ?_
        refine wpT_takeS (i := 12) (by kernel_rfl) (by kernel_rfl) ?_
        refine wpS_load12 (i := 12) (d := some 23) (u := .string (x.d).key) rfl (by rfl) rfl rfl (by simp) (HM140.out.part1 3 rfl rfl) Try.underlying9 rfl rfl ?_
        simp only [Act.put, List.setIfInBounds_toArray, List.set_cons_succ, List.set_cons_zero]
        refine wpS_nil ?_
        refine wpT_takeS (i := 13) (by kernel_rfl) (by kernel_rfl) ?_
        refine wpS_stay [13] rfl (by kernel_rfl) (by simp only [pickL, nthL, List.cons_append, List.nil_append]; rfl) ?_
        repeat (go_big_quiet_step (fail))
        refine wpQuiet_nil ?_
        refine wpS_nil ?_
        refine wpT_takeS (i := 14) (by kernel_rfl) (by kernel_rfl) ?_
        refine wpS_stay [14] rfl (by kernel_rfl) (by simp only [pickL, nthL, List.cons_append, List.nil_append]; rfl) ?_
        repeat (go_big_quiet_step (fail))
        refine wpQuiet_nil ?_
        refine wpS_nil ?_
        refine wpT_takeS (i := 15) (by kernel_rfl) (by kernel_rfl) ?_
        refine wpS_stay [15] rfl (by kernel_rfl) (by simp only [pickL, nthL, List.cons_append, List.nil_append]; rfl) ?_
        repeat (go_big_quiet_step (fail))
        refine wpQuiet_nil ?_
        refine wpS_nil ?_
        refine wpT_end (by kernel_rfl) ?_
        refine then_normal ?_
        refine ⟨by kernel_rfl, ?_⟩
        exact ⟨rfl, (Mem.only (M := [_, _]) HM140.out [3, 2] rfl)⟩
    rintro vs W' ⟨e26, hm⟩
    simp only [putAll, List.map_cons, List.map_nil, Act.put, List.setIfInBounds_toArray, List.set_cons_succ, List.set_cons_zero]
    rw [e26]
    clear e26
    have HM141 := Lib.hid hm
    clear hm
    refine then_normal ?_
    refine wp_cond_true rfl ?_
    refine wp_seq ?_
    refine wp_region_N [(0, 3), (1, 1)] (by kernel_rfl) ?_
    refine wpS_does0 (i := 0) (d := some 27) (rem := [_, _]) (out := [_, _]) rfl (by rfl) rfl Try.call9 (awake_d)  HM141.out [] rfl covS_nil rfl rfl ?_
    rintro W143 hm142 -
    have HM144 := Lib.hid hm142
    clear hm142
    simp only [Act.put, List.setIfInBounds_toArray, List.set_cons_succ, List.set_cons_zero]
    refine wpS_this [1] rfl (by kernel_rfl) (by simp only [pickL, nthL, List.cons_append, List.nil_append]; rfl) ?_
    repeat (go_big_quiet_step (fail))
    refine wpQuiet_nil ?_
    refine wpS_nil ?_
    refine then_normal ?_
    refine wp_ret ?_
    refine then_ret ?_
    refine bodyPost_ret (results_tmp rfl _ _ _) rfl ?_
    exact does_ret (Mem.only (M := [_]) HM144.out [1] rfl) rfl rfl
  · have hgd := good_rn (x := x) (by unfold badX; rw [decide_eq_false h2, decide_eq_false h3]; rfl)
    rw [hwm] at h3
    have g8 : decide (0 < m1 + m2) = false := decide_eq_false h3
    clear hwm
    have g7 : decide ((200 : Int) < (x.d.key.size : Int)) = false := decide_eq_false (by omega)
    have g7' : decide (200 < x.d.key.size) = false := decide_eq_false h2
    have hlr : Hid (x.d.r.p.2.2.length ≤ 1000) := Lib.hid (by have e := rn_len hq.out; have := hgd.1; omega)
    clear hgd
    have hm1 := Lib.hid hm1'
    clear hm1'
    have hm2 := Lib.hid hm2'
    clear hm2'
    replace h2 := Lib.hid h2
    replace h3 := Lib.hid h3
    refine wp_cut_F [11, 12, 13, 14, 15, 16, 17, 18, 19, 20, 21, 22, 23, 24, 25, 26] (fun vs W' => vs 26 = .bool false ∧ Mem [boxT b3 (.cells (ddC x.d (.slice x.vp x.vn x.vc) (.slice x.rp x.rn x.rc)).toArray 43 (0, 0)), oldT W0] H w W') ?_ ?_
    · refine wp_region_taken [] (fun k => k ∈ ([b3] : List Nat)) (by kernel_rfl) rfl rfl ?_
      have hm145 := HM4.out.drew
      have HM146 := Lib.hid hm145
      clear hm145
      refine wpT_takeS (i := 0) (by kernel_rfl) (by kernel_rfl) ?_
      refine wpS_stay [0] rfl (by kernel_rfl) (by simp only [pickL, nthL, List.cons_append, List.nil_append]; rfl) ?_
      repeat (go_big_quiet_step (fail))
      refine wpQuiet_nil ?_
      refine wpS_nil ?_
      refine wpT_takeS (i := 1) (by kernel_rfl) (by kernel_rfl) ?_
      refine wpS_loadA2 (i := 1) (d := some 12) (cells := bgC (x.d).b.k (.slice x.vp x.vn x.vc)) rfl (by rfl) rfl rfl (by simp) (HM146.out.part 0 rfl (ddC_bag)) Try.underlying33 rfl (by kernel_rfl) rfl ?_
      simp only [Act.put, List.setIfInBounds_toArray, List.set_cons_succ, List.set_cons_zero]
      refine wpS_nil ?_
      refine wpT_takeS (i := 4) (by kernel_rfl) (by kernel_rfl) ?_
      refine wpS_stay [4] rfl (by kernel_rfl) (by simp only [pickL, nthL, List.cons_append, List.nil_append]; rfl) ?_
      repeat (go_big_quiet_step (fail))
      refine wpQuiet_nil ?_
      refine wpS_nil ?_
      refine wpT_takeS (i := 5) (by kernel_rfl) (by kernel_rfl) ?_
      refine wpS_loadA2 (i := 5) (d := some 16) (cells := rgC (x.d).r (.slice x.rp x.rn x.rc)) rfl (by rfl) rfl rfl (by simp) (HM146.out.part 0 rfl (ddC_ring)) Try.underlying41 rfl (by kernel_rfl) rfl ?_
      simp only [Act.put, List.setIfInBounds_toArray, List.set_cons_succ, List.set_cons_zero]
      refine wpS_nil ?_
      refine wpT_ready 2 [6] (by kernel_rfl) (allT_cons ?_ (allT_cons ?_ allT_nil))
      · refine opT_S (by kernel_rfl) ?_
        refine wpS_buildN elemB (i := 2) (dd := 13) (n := 1) (xs := [⟨x.d.b.k, x.vp, x.vn, x.vc⟩]) (cs := (bgC x.d.b.k (.slice x.vp x.vn x.vc) ++ []).toArray) rfl (by rfl) (fun _ => by kernel_rfl) rfl rfl HM146.out (covS_box 0 rfl covS_nil) rfl ?_
        rintro b150 W151 hm152 hg153
        have HM154 := Lib.hid hm152
        clear hm152
        simp only [Act.put, List.setIfInBounds_toArray, List.set_cons_succ, List.set_cons_zero]
        refine wpS_nil ?_
        refine wpT_ready 3 [6] (by kernel_rfl) (allT_cons ?_ (allT_cons ?_ allT_nil))
        · refine opT_S (by kernel_rfl) ?_
          refine wpS_does1 (i := 3) (d := some 14) (rem := [_]) (out := [_, _, _]) rfl (by rfl) rfl Try.call27 (Does.ofList (bheavy_d (listT [_, _]) _ ⟨x.d.b.k, x.vp, x.vn, x.vc⟩ x.d.b.v (vRowE 0 rfl rowT_reads) (vRowE 1 rfl (vOld hq.out.1)) hvn.out hlv.out)) rfl HM154.out [0, 1] rfl (covS_box 0 rfl covS_nil) rfl rfl ?_
          rintro W156 hm155 hg157
          rw [hm1.out]
          have HM158 := Lib.hid hm155
          clear hm155
          simp only [Act.put, List.setIfInBounds_toArray, List.set_cons_succ, List.set_cons_zero]
          refine wpS_nil ?_
          refine wpT_ready 6 [] (by kernel_rfl) (allT_cons ?_ allT_nil)
          refine opT_S (by kernel_rfl) ?_
          refine wpS_buildN elemR (i := 6) (dd := 17) (n := 1) (xs := [⟨x.d.r, x.rp, x.rn, x.rc⟩]) (cs := (rgC x.d.r (.slice x.rp x.rn x.rc) ++ []).toArray) rfl (by rfl) (fun _ => by kernel_rfl) rfl rfl HM158.out (covS_box 2 rfl covS_nil) rfl ?_
          rintro b162 W163 hm164 hg165
          have HM166 := Lib.hid hm164
          clear hm164
          simp only [Act.put, List.setIfInBounds_toArray, List.set_cons_succ, List.set_cons_zero]
          refine wpS_nil ?_
          refine wpT_ready 7 [] (by kernel_rfl) (allT_cons ?_ allT_nil)
          refine opT_S (by kernel_rfl) ?_
          refine wpS_does1 (i := 7) (d := some 18) (rem := [_, _, _]) (out := [_, _, _, _]) rfl (by rfl) rfl Try.call28 (heavy_d (rowT elemR _ _) _ _ rowOwnE (Nat.le_of_ble_eq_true rfl)) rfl HM166.out [0] rfl (covS_box 2 rfl covS_nil) rfl rfl ?_
          rintro W168 hm167 hg169
          rw [hm2.out]
          have HM170 := Lib.hid hm167
          clear hm167
          simp only [Act.put, List.setIfInBounds_toArray, List.set_cons_succ, List.set_cons_zero]
          refine wpS_nil ?_
          refine wpT_takeS (i := 8) (by kernel_rfl) (by kernel_rfl) ?_
          refine wpS_stay [8] rfl (by kernel_rfl) (by simp only [pickL, nthL, List.cons_append, List.nil_append]; rfl) ?_
          repeat (go_big_quiet_step (fail))
          refine wpQuiet_nil ?_
          refine wpS_nil ?_
          refine wpT_takeS (i := 9) (by kernel_rfl) (by kernel_rfl) ?_
          refine wpS_stay [9] rfl (by kernel_rfl) (by simp only [pickL, nthL, List.cons_append, List.nil_append]; rfl) ?_
          repeat (go_big_quiet_step (fail))
          refine wpQuiet_nil ?_
          refine wpS_nil ?_
          refine wpT_takeS (i := 10) (by kernel_rfl) (by kernel_rfl) ?_
          refine wpS_stay [10] rfl (by kernel_rfl) (by simp only [pickL, nthL, List.cons_append, List.nil_append]; rfl) ?_
          repeat (go_big_quiet_step (fail))
          refine wpQuiet_nil ?_
          refine wpS_nil ?_
          refine wpT_takeS (i := 11) (by kernel_rfl) (by kernel_rfl) ?_
          refine wpS_stay [11] rfl (by kernel_rfl) (by simp only [pickL, nthL, List.cons_append, List.nil_append]; rfl) ?_
          repeat (go_big_quiet_step (fail))
          refine wpQuiet_nil ?_
          refine wpS_nil ?_
          refine wpT_takeS (i := 12) (by kernel_rfl) (by kernel_rfl) ?_
          refine wpS_load12 (i := 12) (d := some 23) (u := .string (x.d).key) rfl (by rfl) rfl rfl (by simp) (HM170.out.part1 3 rfl rfl) Try.underlying9 rfl rfl ?_
          simp only [Act.put, List.setIfInBounds_toArray, List.set_cons_succ, List.set_cons_zero]
          refine wpS_nil ?_
          refine wpT_takeS (i := 13) (by kernel_rfl) (by kernel_rfl) ?_
          refine wpS_stay [13] rfl (by kernel_rfl) (by simp only [pickL, nthL, List.cons_append, List.nil_append]; rfl) ?_
          repeat (go_big_quiet_step (fail))
          refine wpQuiet_nil ?_
          refine wpS_nil ?_
          refine wpT_takeS (i := 14) (by kernel_rfl) (by kernel_rfl) ?_
          refine wpS_stay [14] rfl (by kernel_rfl) (by simp only [pickL, nthL, List.cons_append, List.nil_append]; rfl) ?_
          repeat (go_big_quiet_step (fail))
          refine wpQuiet_nil ?_
          refine wpS_nil ?_
          refine wpT_takeS (i := 15) (by kernel_rfl) (by kernel_rfl) ?_
          refine wpS_stay [15] rfl (by kernel_rfl) (by simp only [pickL, nthL, List.cons_append, List.nil_append]; rfl) ?_
          repeat (go_big_quiet_step (fail))
          refine wpQuiet_nil ?_
          refine wpS_nil ?_
          refine wpT_end (by kernel_rfl) ?_
          refine then_normal ?_
          refine ⟨by kernel_rfl, ?_⟩
          exact ⟨rfl, (Mem.only (M := [_, _]) HM170.out [3, 2] rfl)⟩
        · refine opT_S (by kernel_rfl) ?_
          refine wpS_buildN elemR (i := 6) (dd := 17) (n := 1) (xs := [⟨x.d.r, x.rp, x.rn, x.rc⟩]) (cs := (rgC x.d.r (.slice x.rp x.rn x.rc) ++ []).toArray) rfl (by rfl) (fun _ => by kernel_rfl) rfl rfl HM154.out (covS_box 1 rfl covS_nil) rfl ?_
          rintro b174 W175 hm176 hg177
          have HM178 := Lib.hid hm176
          clear hm176
          simp only [Act.put, List.setIfInBounds_toArray, List.set_cons_succ, List.set_cons_zero]
          refine wpS_nil ?_
          refine wpT_ready 3 [] (by kernel_rfl) (allT_cons ?_ allT_nil)
          refine opT_S (by kernel_rfl) ?_
          refine wpS_does1 (i := 3) (d := some 14) (rem := [_, _]) (out := [_, _, _, _]) rfl (by rfl) rfl Try.call27 (Does.ofList (bheavy_d (listT [_, _]) _ ⟨x.d.b.k, x.vp, x.vn, x.vc⟩ x.d.b.v (vRowE 0 rfl rowT_reads) (vRowE 1 rfl (vOld hq.out.1)) hvn.out hlv.out)) rfl HM178.out [1, 2] rfl (covS_box 1 rfl covS_nil) rfl rfl ?_
          rintro W180 hm179 hg181
          rw [hm1.out]
          have HM182 := Lib.hid hm179
          clear hm179
          simp only [Act.put, List.setIfInBounds_toArray, List.set_cons_succ, List.set_cons_zero]
          refine wpS_nil ?_
          refine wpT_ready 7 [] (by kernel_rfl) (allT_cons ?_ allT_nil)
          refine opT_S (by kernel_rfl) ?_
          refine wpS_does1 (i := 7) (d := some 18) (rem := [_, _, _]) (out := [_, _, _, _]) rfl (by rfl) rfl Try.call28 (heavy_d (rowT elemR _ _) _ _ rowOwnE (Nat.le_of_ble_eq_true rfl)) rfl HM182.out [2] rfl (covS_box 2 rfl covS_nil) rfl rfl ?_
          rintro W184 hm183 hg185
          rw [hm2.out]
          have HM186 := Lib.hid hm183
          clear hm183
          simp only [Act.put, List.setIfInBounds_toArray, List.set_cons_succ, List.set_cons_zero]
          refine wpS_nil ?_
          refine wpT_takeS (i := 8) (by kernel_rfl) (by kernel_rfl) ?_
          refine wpS_stay [8] rfl (by kernel_rfl) (by simp only [pickL, nthL, List.cons_append, List.nil_append]; rfl) ?_
          repeat (go_big_quiet_step (fail))
          refine wpQuiet_nil ?_
          refine wpS_nil ?_
          refine wpT_takeS (i := 9) (by kernel_rfl) (by kernel_rfl) ?_
          refine wpS_stay [9] rfl (by kernel_rfl) (by simp only [pickL, nthL, List.cons_append, List.nil_append]; rfl) ?_
          repeat (go_big_quiet_step (fail))
          refine wpQuiet_nil ?_
          refine wpS_nil ?_
          refine wpT_takeS (i := 10) (by kernel_rfl) (by kernel_rfl) ?_
          refine wpS_stay [10] rfl (by kernel_rfl) (by simp only [pickL, nthL, List.cons_append, List.nil_append]; rfl) ?_
          repeat (go_big_quiet_step (fail))
          refine wpQuiet_nil ?_
          refine wpS_nil ?_
          refine wpT_takeS (i := 11) (by kernel_rfl) (by kernel_rfl) ?_
          refine wpS_stay [11] rfl (by kernel_rfl) (by simp only [pickL, nthL, List.cons_append, List.nil_append]; rfl) ?_
          repeat (go_big_quiet_step (fail))
          refine wpQuiet_nil ?_
          refine wpS_nil ?_
          refine wpT_takeS (i := 12) (by kernel_rfl) (by kernel_rfl) ?_
          refine wpS_load12 (i := 12) (d := some 23) (u := .string (x.d).key) rfl (by rfl) rfl rfl (by simp) (HM186.out.part1 3 rfl rfl) Try.underlying9 rfl rfl ?_
          simp only [Act.put, List.setIfInBounds_toArray, List.set_cons_succ, List.set_cons_zero]
          refine wpS_nil ?_
          refine wpT_takeS (i := 13) (by kernel_rfl) (by kernel_rfl) ?_
          refine wpS_stay [13] rfl (by kernel_rfl) (by simp only [pickL, nthL, List.cons_append, List.nil_append]; rfl) ?_
          repeat (go_big_quiet_step (fail))
          refine wpQuiet_nil ?_
          refine wpS_nil ?_
          refine wpT_takeS (i := 14) (by kernel_rfl) (by kernel_rfl) ?_
          refine wpS_stay [14] rfl (by kernel_rfl) (by simp only [pickL, nthL, List.cons_append, List.nil_append]; rfl) ?_
          repeat (go_big_quiet_step (fail))
          refine wpQuiet_nil ?_
          refine wpS_nil ?_
          refine wpT_takeS (i := 15) (by kernel_rfl) (by kernel_rfl) ?_
          refine wpS_stay [15] rfl (by kernel_rfl) (by simp only [pickL, nthL, List.cons_append, List.nil_append]; rfl) ?_
          repeat (go_big_quiet_step (fail))
          refine wpQuiet_nil ?_
          refine wpS_nil ?_
          refine wpT_end (by kernel_rfl) ?_
          refine then_normal ?_
          refine ⟨by kernel_rfl, ?_⟩
          exact ⟨rfl, (Mem.only (M := [_, _]) HM186.out [3, 2] rfl)⟩
      · refine opT_S (by kernel_rfl) ?_
        refine wpS_buildN elemR (i := 6) (dd := 17) (n := 1) (xs := [⟨x.d.r, x.rp, x.rn, x.rc⟩]) (cs := (rgC x.d.r (.slice x.rp x.rn x.rc) ++ []).toArray) rfl (by rfl) (fun _ => by kernel_rfl) rfl rfl HM146.out (covS_box 0 rfl covS_nil) rfl ?_
        rintro b190 W191 hm192 hg193
        have HM194 := Lib.hid hm192
        clear hm192
        simp only [Act.put, List.setIfInBounds_toArray, List.set_cons_succ, List.set_cons_zero]
        refine wpS_nil ?_
        refine wpT_ready 2 [] (by kernel_rfl) (allT_cons ?_ allT_nil)
        refine opT_S (by kernel_rfl) ?_
        refine wpS_buildN elemB (i := 2) (dd := 13) (n := 1) (xs := [⟨x.d.b.k, x.vp, x.vn, x.vc⟩]) (cs := (bgC x.d.b.k (.slice x.vp x.vn x.vc) ++ []).toArray) rfl (by rfl) (fun _ => by kernel_rfl) rfl rfl HM194.out (covS_box 1 rfl covS_nil) rfl ?_
        rintro b198 W199 hm200 hg201
        have HM202 := Lib.hid hm200
        clear hm200
        simp only [Act.put, List.setIfInBounds_toArray, List.set_cons_succ, List.set_cons_zero]
        refine wpS_nil ?_
        refine wpT_ready 3 [] (by kernel_rfl) (allT_cons ?_ allT_nil)
        refine opT_S (by kernel_rfl) ?_
        refine wpS_does1 (i := 3) (d := some 14) (rem := [_, _]) (out := [_, _, _, _]) rfl (by rfl) rfl Try.call27 (Does.ofList (bheavy_d (listT [_, _]) _ ⟨x.d.b.k, x.vp, x.vn, x.vc⟩ x.d.b.v (vRowE 0 rfl rowT_reads) (vRowE 1 rfl (vOld hq.out.1)) hvn.out hlv.out)) rfl HM202.out [0, 2] rfl (covS_box 1 rfl covS_nil) rfl rfl ?_
        rintro W204 hm203 hg205
        rw [hm1.out]
        have HM206 := Lib.hid hm203
        clear hm203
        simp only [Act.put, List.setIfInBounds_toArray, List.set_cons_succ, List.set_cons_zero]
        refine wpS_nil ?_
        refine wpT_ready 7 [] (by kernel_rfl) (allT_cons ?_ allT_nil)
        refine opT_S (by kernel_rfl) ?_
        refine wpS_does1 (i := 7) (d := some 18) (rem := [_, _, _]) (out := [_, _, _, _]) rfl (by rfl) rfl Try.call28 (heavy_d (rowT elemR _ _) _ _ rowOwnE (Nat.le_of_ble_eq_true rfl)) rfl HM206.out [2] rfl (covS_box 2 rfl covS_nil) rfl rfl ?_
        rintro W208 hm207 hg209
        rw [hm2.out]
        have HM210 := Lib.hid hm207
        clear hm207
        simp only [Act.put, List.setIfInBounds_toArray, List.set_cons_succ, List.set_cons_zero]
        refine wpS_nil ?_
        refine wpT_takeS (i := 8) (by kernel_rfl) (by kernel_rfl) ?_
        refine wpS_stay [8] rfl (by kernel_rfl) (by simp only [pickL, nthL, List.cons_append, List.nil_append]; rfl) ?_
        repeat (go_big_quiet_step (fail))
        refine wpQuiet_nil ?_
        refine wpS_nil ?_
        refine wpT_takeS (i := 9) (by kernel_rfl) (by kernel_rfl) ?_
        refine wpS_stay [9] rfl (by kernel_rfl) (by simp only [pickL, nthL, List.cons_append, List.nil_append]; rfl) ?_
        repeat (go_big_quiet_step (fail))
        refine wpQuiet_nil ?_
        refine wpS_nil ?_
        refine wpT_takeS (i := 10) (by kernel_rfl) (by kernel_rfl) ?_
        refine wpS_stay [10] rfl (by kernel_rfl) (by simp only [pickL, nthL, List.cons_append, List.nil_append]; rfl) ?_
        repeat (go_big_quiet_step (fail))
        refine wpQuiet_nil ?_
        refine wpS_nil ?_
        refine wpT_takeS (i := 11) (by kernel_rfl) (by kernel_rfl) ?_
        refine wpS_stay [11] rfl (by kernel_rfl) (by simp only [pickL, nthL, List.cons_append, List.nil_append]; rfl) ?_
        repeat (go_big_quiet_step (fail))
        refine wpQuiet_nil ?_
        refine wpS_nil ?_
        refine wpT_takeS (i := 12) (by kernel_rfl) (by kernel_rfl) ?_
        refine wpS_load12 (i := 12) (d := some 23) (u := .string (x.d).key) rfl (by rfl) rfl rfl (by simp) (HM210.out.part1 3 rfl rfl) Try.underlying9 rfl rfl ?_
        simp only [Act.put, List.setIfInBounds_toArray, List.set_cons_succ, List.set_cons_zero]
        refine wpS_nil ?_
        refine wpT_takeS (i := 13) (by kernel_rfl) (by kernel_rfl) ?_
        refine wpS_stay [13] rfl (by kernel_rfl) (by simp only [pickL, nthL, List.cons_append, List.nil_append]; rfl) ?_
        repeat (go_big_quiet_step (fail))
        refine wpQuiet_nil ?_
        refine wpS_nil ?_
        refine wpT_takeS (i := 14) (by kernel_rfl) (by kernel_rfl) ?_
        refine wpS_stay [14] rfl (by kernel_rfl) (by simp only [pickL, nthL, List.cons_append, List.nil_append]; rfl) ?_
        repeat (go_big_quiet_step (fail))
        refine wpQuiet_nil ?_
        refine wpS_nil ?_
        refine wpT_takeS (i := 15) (by kernel_rfl) (by kernel_rfl) ?_
        refine wpS_stay [15] rfl (by kernel_rfl) (by simp only [pickL, nthL, List.cons_append, List.nil_append]; rfl) ?_
        repeat (go_big_quiet_step (fail))
        refine wpQuiet_nil ?_
        refine wpS_nil ?_
        refine wpT_end (by kernel_rfl) ?_
        refine then_normal ?_
        refine ⟨by kernel_rfl, ?_⟩
        exact ⟨rfl, (Mem.only (M := [_, _]) HM210.out [3, 2] rfl)⟩
    rintro vs W' ⟨e26, hm⟩
    simp only [putAll, List.map_cons, List.map_nil, Act.put, List.setIfInBounds_toArray, List.set_cons_succ, List.set_cons_zero]
    rw [e26]
    clear e26
    have HM211 := Lib.hid hm
    clear hm
    refine then_normal ?_
    refine wp_cond_false rfl ?_
    refine wp_skip ?_
    refine then_normal ?_
    refine wp_seq ?_
    refine wp_region_N [(0, 1), (1, 3), (2, 3)] (by kernel_rfl) ?_
    refine wpS_loadA (i := 0) (d := some 28) (cells := ddC (x.d) (.slice x.vp x.vn x.vc) (.slice x.rp x.rn x.rc)) rfl (by rfl) rfl rfl (HM211.out.part 0 rfl (ddC_all)) Try.underlying43 rfl (by kernel_rfl) rfl ?_
    simp only [Act.put, List.setIfInBounds_toArray, List.set_cons_succ, List.set_cons_zero]
    refine wpS_alloc (i := 1) (dd := 5) (z := ddV noD (.slice none 0 0) (.slice none 0 0)) (cs := (ddC noD (.slice none 0 0) (.slice none 0 0)).toArray) rfl (by rfl) rfl (by kernel_rfl) rfl HM211.out covS_nil rfl ?_
    rintro b214 W213 hm212 -
    have HM215 := Lib.hid hm212
    clear hm212
    simp only [Act.put, List.setIfInBounds_toArray, List.set_cons_succ, List.set_cons_zero]
    refine wpS_storeA (i := 2) (L2 := [_, _]) (cs' := ddC (x.d) (.slice x.vp x.vn x.vc) (.slice x.rp x.rn x.rc)) rfl (by rfl) rfl rfl rfl (by kernel_rfl) (ddC_one _ _ _ _ _ _) HM215.out 0 rfl rfl (by kernel_rfl) (by kernel_rfl) covS_nil rfl ?_
    rintro W217 hm216 -
    have HM218 := Lib.hid hm216
    clear hm216
    refine wpS_nil ?_
    refine then_normal ?_
    refine wp_seq ?_
    refine wp_region_N [(0, 3), (1, 1), (2, 1), (3, 1), (4, 3), (5, 1), (6, 1), (7, 3)] (by kernel_rfl) ?_
    refine wpS_buildN elemV (i := 0) (dd := 29) (n := 0) (xs := []) (cs := #[]) rfl (by rfl) (fun _ => by kernel_rfl) rfl rfl HM218.out covS_nil rfl ?_
    rintro b221 W222 hm223 -
    have HM224 := Lib.hid hm223
    clear hm223
    simp only [Act.put, List.setIfInBounds_toArray, List.set_cons_succ, List.set_cons_zero]
    refine wpS_this [1, 2] rfl (by kernel_rfl) (by simp only [pickL, nthL, List.cons_append, List.nil_append]; rfl) ?_
    repeat (go_big_quiet_step (fail))
    refine wpQuiet_nil ?_
    refine wpS_load1 (i := 3) (d := some 32) (u := .slice x.vp x.vn x.vc) rfl (by rfl) rfl rfl (HM224.out.part1 2 rfl ddC_vals) Try.underlying31 rfl rfl ?_
    simp only [Act.put, List.setIfInBounds_toArray, List.set_cons_succ, List.set_cons_zero]
    refine wpS_append (E := elemV) (i := 4) (d := some 33) (L2 := [_, _, _]) rfl (by rfl) rfl HM224.out 0 rfl rfl (Mem.src HM224.out 3 rfl (vOld hq.out.1)) rfl (by rw [List.length_nil]; show _ * 32 ≤ _; have := hlv.out; omega) rfl covS_nil rfl ?_
    rintro v227 W228 hm229 -
    rw [List.nil_append] at hm229
    obtain ⟨pv, cv, rfl⟩ := row_form (Mem.src hm229 0 rfl rowT_reads)
    have HM230 := Lib.hid hm229
    clear hm229
    simp only [Act.put, List.setIfInBounds_toArray, List.set_cons_succ, List.set_cons_zero]
    refine wpS_this [5, 6] rfl (by kernel_rfl) (by simp only [pickL, nthL, List.cons_append, List.nil_append]; rfl) ?_
    repeat (go_big_quiet_step (fail))
    refine wpQuiet_nil ?_
    refine wpS_store1 (i := 7) (v := _) (L2 := [_, _, _]) (cs' := ddC (x.d) (.slice pv x.d.b.v.length cv) (.slice x.rp x.rn x.rc)) rfl (by rfl) rfl rfl rfl rfl (by kernel_rfl) rfl HM230.out 1 rfl rfl (by kernel_rfl) (ddC_setVals _) covS_nil rfl ?_
    rintro W232 hm231 -
    have HM233 := Lib.hid hm231
    clear hm231
    refine wpS_nil ?_
    refine then_normal ?_
    refine wp_seq ?_
    refine wp_region_N [(0, 3), (1, 1), (2, 1), (3, 1), (4, 1), (5, 3), (6, 1), (7, 1), (8, 1), (9, 3)] (by kernel_rfl) ?_
    refine wpS_buildN elemI (i := 0) (dd := 36) (n := 0) (xs := []) (cs := #[]) rfl (by rfl) (fun _ => by kernel_rfl) rfl rfl HM233.out covS_nil rfl ?_
    rintro b236 W237 hm238 -
    have HM239 := Lib.hid hm238
    clear hm238
    simp only [Act.put, List.setIfInBounds_toArray, List.set_cons_succ, List.set_cons_zero]
    refine wpS_this [1, 2, 3] rfl (by kernel_rfl) (by simp only [pickL, nthL, List.cons_append, List.nil_append]; rfl) ?_
    repeat (go_big_quiet_step (fail))
    refine wpQuiet_nil ?_
    refine wpS_load1 (i := 4) (d := some 40) (u := .slice x.rp x.rn x.rc) rfl (by rfl) rfl rfl (HM239.out.part1 3 rfl ddC_tgts) Try.underlying34 rfl rfl ?_
    simp only [Act.put, List.setIfInBounds_toArray, List.set_cons_succ, List.set_cons_zero]
    refine wpS_append (E := elemI) (i := 5) (d := some 41) (L2 := [_, _, _, _]) rfl (by rfl) rfl HM239.out 0 rfl rfl (Mem.src HM239.out 4 rfl (srcOld hq.out.2)) rfl (by rw [List.length_nil]; show _ * 8 ≤ _; have := hlr.out; omega) rfl covS_nil rfl ?_
    rintro v242 W243 hm244 -
    rw [List.nil_append] at hm244
    obtain ⟨pr, cr, rfl⟩ := row_form (Mem.src hm244 0 rfl rowT_reads)
    have HM245 := Lib.hid hm244
    clear hm244
    simp only [Act.put, List.setIfInBounds_toArray, List.set_cons_succ, List.set_cons_zero]
    refine wpS_this [6, 7, 8] rfl (by kernel_rfl) (by simp only [pickL, nthL, List.cons_append, List.nil_append]; rfl) ?_
    repeat (go_big_quiet_step (fail))
    refine wpQuiet_nil ?_
    refine wpS_store1 (i := 9) (v := _) (L2 := [_, _, _, _]) (cs' := ddC (x.d) (.slice pv x.d.b.v.length cv) (.slice pr x.d.r.p.2.2.length cr)) rfl (by rfl) rfl rfl rfl rfl (by kernel_rfl) rfl HM245.out 1 rfl rfl (by kernel_rfl) (ddC_setTgts _) covS_nil rfl ?_
    rintro W247 hm246 -
    have HM248 := Lib.hid hm246
    clear hm246
    refine wpS_nil ?_
    refine then_normal ?_
    refine wp_seq ?_
    refine wp_region_N [(0, 3), (1, 1)] (by kernel_rfl) ?_
    refine wpS_doesU1 (i := 0) (d := some 45) (rem := [_, _, _, _, _]) rfl (by rfl) rfl Try.call10 (lnew_d 3) rfl HM248.out [] rfl covS_nil (fun _ => rfl) rfl ?_
    rintro u251 W250 hm249 -
    obtain ⟨dl, rfl, hm249q⟩ := Mem.lgN hm249
    clear hm249
    have HM252 := Lib.hid hm249q
    clear hm249q
    simp only [Act.put, List.setIfInBounds_toArray, List.set_cons_succ, List.set_cons_zero]
    refine wpS_this [1] rfl (by kernel_rfl) (by simp only [pickL, nthL, List.cons_append, List.nil_append]; rfl) ?_
    repeat (go_big_quiet_step (fail))
    refine wpQuiet_nil ?_
    refine wpS_nil ?_
    refine then_normal ?_
    refine wp_seq ?_
    cases hmy' : mayD x.d
    · have hmy := Lib.hid hmy'
      have hwr : Hid (writeL (newL 3) x.d = (own1 x.d, 1)) := Lib.hid (by rw [own_write, if_neg (by rw [hmy']; simp)])
      clear hmy'
      refine wp_region_N [(0, 1), (1, 1), (2, 3), (3, 1)] (by kernel_rfl) ?_
      refine wpS_this [0] rfl (by kernel_rfl) (by simp only [pickL, nthL, List.cons_append, List.nil_append]; rfl) ?_
      repeat (go_big_quiet_step (fail))
      refine wpQuiet_nil ?_
      refine wpS_loadA (i := 1) (d := some 47) (cells := ddC (x.d) (.slice pv x.d.b.v.length cv) (.slice pr x.d.r.p.2.2.length cr)) rfl (by rfl) rfl rfl (HM252.out.part 1 rfl (ddC_all)) Try.underlying43 rfl (by kernel_rfl) rfl ?_
      simp only [Act.put, List.setIfInBounds_toArray, List.set_cons_succ, List.set_cons_zero]
      refine wpS_does2 (i := 2) (d := some 48) (rem := [_, _, _]) (out := [_, _, _, _, _, _]) rfl (by rfl) rfl Try.call20 (Does.ofTwo (lwrite_d (listT [_, _]) dl (newL 3) x.d _ _ ⟨vL 0 rfl rowT_reads, hlv.out, vL 1 rfl rowT_reads, hlr.out⟩ (LgOk.new 3))) rfl rfl HM252.out [0, 2, 1] rfl covS_nil rfl rfl ?_
      rintro W254 hm253 -
      rw [hwr.out] at hm253 ⊢
      have HM255 := Lib.hid hm253
      clear hm253
      simp only [Act.put, List.setIfInBounds_toArray, List.set_cons_succ, List.set_cons_zero]
      refine wpS_this [3] rfl (by kernel_rfl) (by simp only [pickL, nthL, List.cons_append, List.nil_append]; rfl) ?_
      repeat (go_big_quiet_step (fail))
      refine wpQuiet_nil ?_
      refine wpS_nil ?_
      refine then_normal ?_
      refine wp_seq ?_
      refine wp_seq ?_
      refine wp_region_N [(0, 1), (1, 1), (2, 1), (3, 3), (4, 1)] (by kernel_rfl) ?_
      refine wpS_this [0, 1] rfl (by kernel_rfl) (by simp only [pickL, nthL, List.cons_append, List.nil_append]; rfl) ?_
      repeat (go_big_quiet_step (fail))
      refine wpQuiet_nil ?_
      refine wpS_loadA (i := 2) (d := some 51) (cells := ddC (x.d) (.slice x.vp x.vn x.vc) (.slice x.rp x.rn x.rc)) rfl (by rfl) rfl rfl (HM255.out.part 4 rfl (ddC_all)) Try.underlying43 rfl (by kernel_rfl) rfl ?_
      simp only [Act.put, List.setIfInBounds_toArray, List.set_cons_succ, List.set_cons_zero]
      refine wpS_does1 (i := 3) (d := some 52) (rem := [_, _, _, _, _]) (out := [_, _, _, _, _, _]) rfl (by rfl) rfl Try.call12 (lmay_d (oldT W0) _ _ x.d ⟨vOld hq.out.1, hlv.out, srcOld hq.out.2, hlr.out⟩) rfl HM255.out [5] rfl covS_nil rfl rfl ?_
      rintro W257 hm256 -
      rw [hmy.out]
      have HM258 := Lib.hid hm256
      clear hm256
      simp only [Act.put, List.setIfInBounds_toArray, List.set_cons_succ, List.set_cons_zero]
      refine wpS_this [4] rfl (by kernel_rfl) (by simp only [pickL, nthL, List.cons_append, List.nil_append]; rfl) ?_
      repeat (go_big_quiet_step (fail))
      refine wpQuiet_nil ?_
      refine wpS_nil ?_
      refine then_normal ?_
      refine wp_cond_false rfl ?_
      refine wp_skip ?_
      refine then_normal ?_
      refine wp_seq ?_
      refine wp_seq ?_
      refine wp_region_N [(0, 1)] (by kernel_rfl) ?_
      refine wpS_this [0] rfl (by kernel_rfl) (by simp only [pickL, nthL, List.cons_append, List.nil_append]; rfl) ?_
      repeat (go_big_quiet_step (fail))
      refine wpQuiet_nil ?_
      refine wpS_nil ?_
      refine then_normal ?_
      refine wp_block ?_
      refine wp_loop_F [4, 8, 9, 10, 54, 55, 56, 57, 58, 59, 60, 61, 62, 63, 64, 65, 66, 67, 68, 69, 70, 71, 72, 73, 74, 75, 76, 77, 78, 79, 80, 81, 82, 83, 84, 85, 86, 87, 88, 89, 90, 91, 92, 93, 94, 95, 96, 97, 98, 99, 100, 101, 102, 103, 104, 105, 106, 107, 108, 109] (fun n vs W' => ∃ (i nv nr : Nat) (pv pr : Option Addr) (cv cr : Nat) (us : List Vl) (ts : List Int), n = 2 - i ∧ vs 54 = .int .i64 (i : Int) ∧ i ≤ 2 ∧ us.length = nv ∧ ts.length = nr ∧ nv ≤ 4398046510976 ∧ nr ≤ 1000 ∧ Mem [boxT b214 (.cells (ddC x.d (.slice pv nv cv) (.slice pr nr cr)).toArray 43 (0, 0)), rowT elemV (.slice pv nv cv) us, rowT elemI (.slice pr nr cr) ts, lgT dl (own1 x.d), boxT b3 (.cells (ddC x.d (.slice x.vp x.vn x.vc) (.slice x.rp x.rn x.rc)).toArray 43 (0, 0)), oldT W0] H w W') (n0 := 2) ?_ ?_
      · exact ⟨0, x.d.b.v.length, x.d.r.p.2.2.length, _, _, _, _, _, _, rfl, rfl, Nat.zero_le _, rfl, rfl, hlv.out, hlr.out, (Mem.only (M := [_, _, _, _, _, _]) HM258.out [4, 2, 2, 1, 1, 0] rfl)⟩
      rintro n vs W' ⟨i, nv, nr, pv, pr, cv, cr, us, ts, rfl, e54, hi, hus', hts', hnv, hnr, hm⟩
      simp only [putAll, List.map_cons, List.map_nil, Act.put, List.setIfInBounds_toArray, List.set_cons_succ, List.set_cons_zero]
      rw [e54]
      clear e54
      have hus := Lib.hid hus'
      clear hus'
      have hts := Lib.hid hts'
      clear hts'
      have HM259 := Lib.hid hm
      clear hm
      refine wp_seq ?_
      refine wp_region_N [(0, 1)] (by kernel_rfl) ?_
      refine wpS_this [0] rfl (by kernel_rfl) (by simp only [pickL, nthL, List.cons_append, List.nil_append]; rfl) ?_
      repeat (go_big_quiet_step (fail))
      refine wpQuiet_nil ?_
      refine wpS_nil ?_
      refine then_normal ?_
      refine wp_seq ?_
      refine wp_cond_split rfl (fun h260 => ?_) (fun h260 => ?_)
      · have hi1 : i + 1 ≤ 2 := by have : (i : Int) < 2 := (by simpa using h260); omega
        clear h260
        refine wp_skip ?_
        refine then_normal ?_
        refine wp_seq ?_
        refine wp_block ?_
        refine wp_seq ?_
        refine wp_seq ?_
        refine wp_region_N [(0, 1), (1, 1), (2, 1), (3, 1), (4, 1)] (by kernel_rfl) ?_
        refine wpS_this [0, 1] rfl (by kernel_rfl) (by simp only [pickL, nthL, List.cons_append, List.nil_append]; rfl) ?_
        repeat (go_big_quiet_step (fail))
        refine wpQuiet_nil ?_
        refine wpS_load1 (i := 2) (d := some 58) (u := .slice pv nv cv) rfl (by rfl) rfl rfl (HM259.out.part1 0 rfl ddC_vals) Try.underlying31 rfl rfl ?_
        simp only [Act.put, List.setIfInBounds_toArray, List.set_cons_succ, List.set_cons_zero]
        refine wpS_this [3, 4] rfl (by kernel_rfl) (by simp only [pickL, nthL, List.cons_append, List.nil_append]; rfl) ?_
        repeat (go_big_quiet_step (fail))
        refine wpQuiet_nil ?_
        refine wpS_nil ?_
        refine then_normal ?_
        refine wp_block ?_
        refine wp_loop_F [8, 60, 61, 62, 63, 64, 65, 66, 67, 68, 69] (fun n ws W' => ∃ (k : Nat) (us : List Vl), n = nv - k ∧ ws 60 = .int .i64 (k : Int) ∧ k ≤ nv ∧ us.length = nv ∧ Mem [boxT b214 (.cells (ddC x.d (.slice pv nv cv) (.slice pr nr cr)).toArray 43 (0, 0)), rowT elemV (.slice pv nv cv) us, rowT elemI (.slice pr nr cr) ts, lgT dl (own1 x.d), boxT b3 (.cells (ddC x.d (.slice x.vp x.vn x.vc) (.slice x.rp x.rn x.rc)).toArray 43 (0, 0)), oldT W0] H w W') (n0 := nv) ?_ ?_
        · exact ⟨0, us, rfl, rfl, Nat.zero_le _, hus.out, (Mem.only (M := [_, _, _, _, _, _]) HM259.out [0, 0, 0, 0, 0, 0] rfl)⟩
        rintro n ws W' ⟨k, us2, rfl, e60, hk, hus2', hmm⟩
        simp only [putAll, List.map_cons, List.map_nil, Act.put, List.setIfInBounds_toArray, List.set_cons_succ, List.set_cons_zero]
        rw [e60]
        clear e60
        have hus2 := Lib.hid hus2'
        clear hus2'
        have HM261 := Lib.hid hmm
        clear hmm
        refine wp_seq ?_
        refine wp_region_N [(0, 1)] (by kernel_rfl) ?_
        refine wpS_this [0] rfl (by kernel_rfl) (by simp only [pickL, nthL, List.cons_append, List.nil_append]; rfl) ?_
        repeat (go_big_quiet_step (fail))
        refine wpQuiet_nil ?_
        refine wpS_nil ?_
        refine then_normal ?_
        refine wp_seq ?_
        refine wp_cond_split rfl (fun h262 => ?_) (fun h262 => ?_)
        · have hk1 : k + 1 ≤ nv := by have : (k : Int) < nv := (by simpa using h262); omega
          clear h262
          obtain ⟨y, hy'⟩ : ∃ q, us2[k]? = some q := ⟨_, List.getElem?_eq_getElem (by have := hus2.out; omega)⟩
          have hy := Lib.hid hy'
          clear hy'
          refine wp_skip ?_
          refine then_normal ?_
          refine wp_seq ?_
          refine wp_block ?_
          refine wp_seq ?_
          refine wp_region_N [(0, 1), (1, 1)] (by kernel_rfl) ?_
          refine wpS_this [0, 1] rfl (by kernel_rfl) (by simp only [pickL, nthL, List.cons_append, List.nil_append]; rfl) ?_
          repeat (go_big_quiet_step (fail))
          refine wpQuiet_nil ?_
          refine wpS_nil ?_
          refine then_normal ?_
          refine wp_region_N [(0, 1), (1, 1), (2, 1), (3, 1), (4, 1), (5, 1), (6, 3)] (by kernel_rfl) ?_
          refine wpS_this [0, 1] rfl (by kernel_rfl) (by simp only [pickL, nthL, List.cons_append, List.nil_append]; rfl) ?_
          repeat (go_big_quiet_step (fail))
          refine wpQuiet_nil ?_
          refine wpS_load1 (i := 2) (d := some 65) (u := .slice pv nv cv) rfl (by rfl) rfl rfl (HM261.out.part1 0 rfl ddC_vals) Try.underlying31 rfl rfl ?_
          simp only [Act.put, List.setIfInBounds_toArray, List.set_cons_succ, List.set_cons_zero]
          refine wpS_this [3] rfl (by kernel_rfl) (by simp only [pickL, nthL, List.cons_append, List.nil_append]; rfl) ?_
          repeat (go_big_quiet_step (fail))
          refine wpQuiet_nil ?_
          refine wpS_addrE (E := elemV) (i := 4) (d := some 67) (j := k) rfl (by rfl) rfl rfl rfl HM261.out 1 rfl (List.getElem?_eq_some_iff.1 hy.out).1 rfl ?_
          intro grv hprv
          simp only [Act.put, List.setIfInBounds_toArray, List.set_cons_succ, List.set_cons_zero]
          refine wpS_this [5] rfl (by kernel_rfl) (by simp only [pickL, nthL, List.cons_append, List.nil_append]; rfl) ?_
          repeat (go_big_quiet_step (fail))
          refine wpQuiet_nil ?_
          refine wpS_setE (E := elemV) (i := 6) (j := k) (q := 2) (v := .string spoilt) (x0 := y) (y0 := (y.1, spoilt)) (L2 := [_, _, _, _, _]) rfl (by rfl) rfl rfl rfl rfl (by kernel_rfl) rfl HM261.out 1 rfl hprv rfl (by decide) (hy.out) rfl covS_nil rfl ?_
          rintro W264 hm263 -
          have HM265 := Lib.hid hm263
          clear hm263
          refine wpS_nil ?_
          refine block_normal ?_
          refine then_normal ?_
          refine wp_region_N [(0, 1), (1, 1)] (by kernel_rfl) ?_
          refine wpS_this [0, 1] rfl (by kernel_rfl) (by simp only [pickL, nthL, List.cons_append, List.nil_append]; rfl) ?_
          repeat (go_big_quiet_step (fail))
          refine wpQuiet_nil ?_
          refine wpS_nil ?_
          refine then_normal ?_
          refine ⟨by kernel_rfl, ?_⟩
          refine ⟨nv - (k + 1), by omega, k + 1, us2.set k (y.1, spoilt), rfl, rfl, hk1, by rw [List.length_set]; exact hus2.out, (Mem.only (M := [_, _, _, _, _, _]) HM265.out [1, 0, 0, 0, 0, 0] rfl)⟩
        · clear h262
          refine wp_exit ?_
          refine then_exit (then_exit (block_exit ?_))
          refine then_normal ?_
          refine wp_seq ?_
          refine wp_seq ?_
          obtain ⟨us3, hus3e⟩ : ∃ q, us2 = q := ⟨_, rfl⟩
          rw [hus3e] at HM261
          have hus3 : Hid (us3.length = nv) := Lib.hid (hus3e ▸ hus2.out)
          clear hus3e
          refine wp_region_N [(0, 1), (1, 1), (2, 1), (3, 1), (4, 1), (5, 1)] (by kernel_rfl) ?_
          refine wpS_this [0, 1, 2] rfl (by kernel_rfl) (by simp only [pickL, nthL, List.cons_append, List.nil_append]; rfl) ?_
          repeat (go_big_quiet_step (fail))
          refine wpQuiet_nil ?_
          refine wpS_load1 (i := 3) (d := some 73) (u := .slice pr nr cr) rfl (by rfl) rfl rfl (HM261.out.part1 0 rfl ddC_tgts) Try.underlying34 rfl rfl ?_
          simp only [Act.put, List.setIfInBounds_toArray, List.set_cons_succ, List.set_cons_zero]
          refine wpS_this [4, 5] rfl (by kernel_rfl) (by simp only [pickL, nthL, List.cons_append, List.nil_append]; rfl) ?_
          repeat (go_big_quiet_step (fail))
          refine wpQuiet_nil ?_
          refine wpS_nil ?_
          refine then_normal ?_
          refine wp_block ?_
          refine wp_loop_F [9, 75, 76, 77, 78, 79, 80, 81, 82, 83, 84, 85] (fun n ws2 W' => ∃ (k : Nat) (ts : List Int), n = nr - k ∧ ws2 75 = .int .i64 (k : Int) ∧ k ≤ nr ∧ ts.length = nr ∧ Mem [boxT b214 (.cells (ddC x.d (.slice pv nv cv) (.slice pr nr cr)).toArray 43 (0, 0)), rowT elemV (.slice pv nv cv) us3, rowT elemI (.slice pr nr cr) ts, lgT dl (own1 x.d), boxT b3 (.cells (ddC x.d (.slice x.vp x.vn x.vc) (.slice x.rp x.rn x.rc)).toArray 43 (0, 0)), oldT W0] H w W') (n0 := nr) ?_ ?_
          · exact ⟨0, ts, rfl, rfl, Nat.zero_le _, hts.out, (Mem.only (M := [_, _, _, _, _, _]) HM261.out [0, 0, 0, 0, 0, 0] rfl)⟩
          rintro n ws2 W' ⟨k2, ts2, rfl, e75, hk2, hts2', hmu⟩
          simp only [putAll, List.map_cons, List.map_nil, Act.put, List.setIfInBounds_toArray, List.set_cons_succ, List.set_cons_zero]
          rw [e75]
          clear e75
          have hts2 := Lib.hid hts2'
          clear hts2'
          have HM266 := Lib.hid hmu
          clear hmu
          refine wp_seq ?_
          refine wp_region_N [(0, 1)] (by kernel_rfl) ?_
          refine wpS_this [0] rfl (by kernel_rfl) (by simp only [pickL, nthL, List.cons_append, List.nil_append]; rfl) ?_
          repeat (go_big_quiet_step (fail))
          refine wpQuiet_nil ?_
          refine wpS_nil ?_
          refine then_normal ?_
          refine wp_seq ?_
          refine wp_cond_split rfl (fun h267 => ?_) (fun h267 => ?_)
          · have hk21 : k2 + 1 ≤ nr := by have : (k2 : Int) < nr := (by simpa using h267); omega
            clear h267
            obtain ⟨y, hy'⟩ : ∃ q, ts2[k2]? = some q := ⟨_, List.getElem?_eq_getElem (by have := hts2.out; omega)⟩
            have hy := Lib.hid hy'
            clear hy'
            refine wp_skip ?_
            refine then_normal ?_
            refine wp_seq ?_
            refine wp_block ?_
            refine wp_seq ?_
            refine wp_region_N [(0, 1), (1, 1)] (by kernel_rfl) ?_
            refine wpS_this [0, 1] rfl (by kernel_rfl) (by simp only [pickL, nthL, List.cons_append, List.nil_append]; rfl) ?_
            repeat (go_big_quiet_step (fail))
            refine wpQuiet_nil ?_
            refine wpS_nil ?_
            refine then_normal ?_
            refine wp_region_N [(0, 1), (1, 1), (2, 1), (3, 1), (4, 1), (5, 1), (6, 1), (7, 3)] (by kernel_rfl) ?_
            refine wpS_this [0, 1, 2] rfl (by kernel_rfl) (by simp only [pickL, nthL, List.cons_append, List.nil_append]; rfl) ?_
            repeat (go_big_quiet_step (fail))
            refine wpQuiet_nil ?_
            refine wpS_load1 (i := 3) (d := some 81) (u := .slice pr nr cr) rfl (by rfl) rfl rfl (HM266.out.part1 0 rfl ddC_tgts) Try.underlying34 rfl rfl ?_
            simp only [Act.put, List.setIfInBounds_toArray, List.set_cons_succ, List.set_cons_zero]
            refine wpS_this [4, 5] rfl (by kernel_rfl) (by simp only [pickL, nthL, List.cons_append, List.nil_append]; rfl) ?_
            repeat (go_big_quiet_step (fail))
            refine wpQuiet_nil ?_
            refine wpS_addrE (E := elemI) (i := 6) (d := some 84) (j := k2) rfl (by rfl) rfl rfl rfl HM266.out 2 rfl (List.getElem?_eq_some_iff.1 hy.out).1 rfl ?_
            intro gri hpri
            simp only [Act.put, List.setIfInBounds_toArray, List.set_cons_succ, List.set_cons_zero]
            refine wpS_setE (E := elemI) (i := 7) (j := k2) (q := 0) (v := .int .i64 sp) (x0 := y) (y0 := sp) (L2 := [_, _, _, _, _]) rfl (by rfl) rfl rfl rfl rfl (by kernel_rfl) rfl HM266.out 2 rfl hpri rfl (by decide) (hy.out) rfl covS_nil rfl ?_
            rintro W269 hm268 -
            have HM270 := Lib.hid hm268
            clear hm268
            refine wpS_nil ?_
            refine block_normal ?_
            refine then_normal ?_
            refine wp_region_N [(0, 1), (1, 1)] (by kernel_rfl) ?_
            refine wpS_this [0, 1] rfl (by kernel_rfl) (by simp only [pickL, nthL, List.cons_append, List.nil_append]; rfl) ?_
            repeat (go_big_quiet_step (fail))
            refine wpQuiet_nil ?_
            refine wpS_nil ?_
            refine then_normal ?_
            refine ⟨by kernel_rfl, ?_⟩
            refine ⟨nr - (k2 + 1), by omega, k2 + 1, ts2.set k2 sp, rfl, rfl, hk21, by rw [List.length_set]; exact hts2.out, (Mem.only (M := [_, _, _, _, _, _]) HM270.out [1, 1, 0, 0, 0, 0] rfl)⟩
          · clear h267
            refine wp_exit ?_
            refine then_exit (then_exit (block_exit ?_))
            refine then_normal ?_
            refine wp_seq ?_
            obtain ⟨ts3, hts3e⟩ : ∃ q, ts2 = q := ⟨_, rfl⟩
            rw [hts3e] at HM266
            have hts3 : Hid (ts3.length = nr) := Lib.hid (hts3e ▸ hts2.out)
            clear hts3e
            refine wp_region_N [(0, 1), (1, 3), (2, 1)] (by kernel_rfl) ?_
            refine wpS_this [0] rfl (by kernel_rfl) (by simp only [pickL, nthL, List.cons_append, List.nil_append]; rfl) ?_
            repeat (go_big_quiet_step (fail))
            refine wpQuiet_nil ?_
            refine wpS_doesU1 (i := 1) (d := some 87) (rem := [_, _, _, _, _]) rfl (by rfl) rfl Try.call26 (lall_d dl (own1 x.d) (own_ok x.d)) rfl HM266.out [3] rfl covS_nil (fun _ => rfl) rfl ?_
            rintro u273 W272 hm271 -
            obtain ⟨zs, pz, cz, hzs', rfl, hm271q⟩ := Mem.alR hm271
            clear hm271
            have hz0 : zs = [] := List.map_eq_nil_iff.1 (hzs'.trans (congrArg Lg.l (if_neg (by rw [hmy.out]; simp))))
            subst hz0
            clear hzs'
            have HM274 := Lib.hid hm271q
            clear hm271q
            simp only [Act.put, List.setIfInBounds_toArray, List.set_cons_succ, List.set_cons_zero]
            refine wpS_this [2] rfl (by kernel_rfl) (by simp only [pickL, nthL, List.cons_append, List.nil_append]; rfl) ?_
            repeat (go_big_quiet_step (fail))
            refine wpQuiet_nil ?_
            refine wpS_nil ?_
            refine then_normal ?_
            refine wp_seq ?_
            refine wp_seq ?_
            skip
            · skip
              refine wp_region_M (fun k => k ∈ ([] : List Nat)) [(0, 1), (1, 1), (2, 1), (3, 1), (4, 1), (5, 1), (6, 1), (7, 1), (8, 1), (9, 1), (10, 1), (11, 3), (12, 1), (13, 1), (14, 1)] (by kernel_rfl) (by kernel_rfl) HM274.out ?_
              intro W275 hm276
              have HM277 := Lib.hid hm276
              clear hm276
              refine wpS_this [0, 1, 2, 3, 4, 5, 6, 7] rfl (by kernel_rfl) (by simp only [pickL, nthL, List.cons_append, List.nil_append]; rfl) ?_
              repeat (go_big_quiet_step (fail))
              refine wpQuiet_nil ?_
              refine wpS_skip (i := 8) (d := some 96) rfl (by rfl) rfl ?_
              simp only [Act.put, List.setIfInBounds_toArray, List.set_cons_succ, List.set_cons_zero]
              refine wpS_skip (i := 9) (d := some 97) rfl (by rfl) rfl ?_
              simp only [Act.put, List.setIfInBounds_toArray, List.set_cons_succ, List.set_cons_zero]
              refine wpS_skip (i := 10) (d := some 98) rfl (by rfl) rfl ?_
              simp only [Act.put, List.setIfInBounds_toArray, List.set_cons_succ, List.set_cons_zero]
              refine wpS_skip (i := 11) (d := some 99) rfl (by rfl) rfl ?_
              simp only [Act.put, List.setIfInBounds_toArray, List.set_cons_succ, List.set_cons_zero]
              refine wpS_this [12, 13, 14] rfl (by kernel_rfl) (by simp only [pickL, nthL, List.cons_append, List.nil_append]; rfl) ?_
              repeat (go_big_quiet_step (fail))
              refine wpQuiet_nil ?_
              refine wpS_nil ?_
              refine then_normal ?_
              refine wp_cond_false rfl ?_
              refine wp_skip ?_
              refine then_normal ?_
              refine wp_seq ?_
              refine wp_region_N [(0, 1), (1, 1), (2, 1)] (by kernel_rfl) ?_
              refine wpS_this [0, 1, 2] rfl (by kernel_rfl) (by simp only [pickL, nthL, List.cons_append, List.nil_append]; rfl) ?_
              repeat (go_big_quiet_step (fail))
              refine wpQuiet_nil ?_
              refine wpS_nil ?_
              refine then_normal ?_
              refine wp_cond_false rfl ?_
              refine wp_skip ?_
              refine block_normal ?_
              refine then_normal ?_
              refine wp_region_N [(0, 1), (1, 1)] (by kernel_rfl) ?_
              refine wpS_this [0, 1] rfl (by kernel_rfl) (by simp only [pickL, nthL, List.cons_append, List.nil_append]; rfl) ?_
              repeat (go_big_quiet_step (fail))
              refine wpQuiet_nil ?_
              refine wpS_nil ?_
              refine then_normal ?_
              refine ⟨by kernel_rfl, ?_⟩
              exact ⟨2 - (i + 1), by omega, i + 1, nv, nr, pv, pr, cv, cr, us3, ts3, rfl, rfl, hi1, hus3.out, hts3.out, hnv, hnr, (Mem.only (M := [_, _, _, _, _, _]) HM277.out [3, 3, 3, 2, 2, 2] rfl)⟩
      · clear h260
        refine wp_exit ?_
        refine then_exit (then_exit (block_exit ?_))
        refine then_normal ?_
        refine wp_seq ?_
        have hss := Lib.hid (sameD_refl x.d)
        refine wp_region_N [(0, 1), (1, 1), (2, 3), (3, 1), (4, 3), (5, 1), (6, 1)] (by kernel_rfl) ?_
        refine wpS_loadA (i := 0) (d := some 110) (cells := ddC (x.d) (.slice x.vp x.vn x.vc) (.slice x.rp x.rn x.rc)) rfl (by rfl) rfl rfl (HM259.out.part 4 rfl (ddC_all)) Try.underlying43 rfl (by kernel_rfl) rfl ?_
        simp only [Act.put, List.setIfInBounds_toArray, List.set_cons_succ, List.set_cons_zero]
        refine wpS_loadA (i := 1) (d := some 111) (cells := ddC (x.d) (.slice x.vp x.vn x.vc) (.slice x.rp x.rn x.rc)) rfl (by rfl) rfl rfl (HM259.out.part 4 rfl (ddC_all)) Try.underlying43 rfl (by kernel_rfl) rfl ?_
        simp only [Act.put, List.setIfInBounds_toArray, List.set_cons_succ, List.set_cons_zero]
        refine wpS_does2 (i := 2) (d := some 112) (rem := [_, _, _, _, _]) (out := [_, _, _, _, _, _]) rfl (by rfl) rfl Try.call14 (lsame_d (oldT W0) _ _ x.d ⟨vOld hq.out.1, hlv.out, srcOld hq.out.2, hlr.out⟩ _ _ x.d ⟨vOld hq.out.1, hlv.out, srcOld hq.out.2, hlr.out⟩) rfl rfl HM259.out [5] rfl covS_nil rfl rfl ?_
        rintro W279 hm278 -
        rw [hss.out]
        have HM280 := Lib.hid hm278
        clear hm278
        simp only [Act.put, List.setIfInBounds_toArray, List.set_cons_succ, List.set_cons_zero]
        refine wpS_this [3] rfl (by kernel_rfl) (by simp only [pickL, nthL, List.cons_append, List.nil_append]; rfl) ?_
        repeat (go_big_quiet_step (fail))
        refine wpQuiet_nil ?_
        refine wpS_does0 (i := 4) (d := some 114) (rem := [_, _, _, _, _, _]) (out := [_, _, _, _, _, _]) rfl (by rfl) rfl Try.call9 (awake_d)  HM280.out [] rfl covS_nil rfl rfl ?_
        rintro W282 hm281 -
        have HM283 := Lib.hid hm281
        clear hm281
        simp only [Act.put, List.setIfInBounds_toArray, List.set_cons_succ, List.set_cons_zero]
        refine wpS_this [5, 6] rfl (by kernel_rfl) (by simp only [pickL, nthL, List.cons_append, List.nil_append]; rfl) ?_
        repeat (go_big_quiet_step (fail))
        refine wpQuiet_nil ?_
        refine wpS_nil ?_
        refine then_normal ?_
        refine wp_ret ?_
        refine bodyPost_ret (results_tmp rfl _ _ _) rfl ?_
        exact does_ret (Mem.only (M := [_]) HM283.out [0] rfl) rfl rfl
    · have hmy := Lib.hid hmy'
      have hwr : Hid (writeL (newL 3) x.d = (own1 x.d, 0)) := Lib.hid (by rw [own_write, if_pos hmy'])
      clear hmy'
      refine wp_region_N [(0, 1), (1, 1), (2, 3), (3, 1)] (by kernel_rfl) ?_
      refine wpS_this [0] rfl (by kernel_rfl) (by simp only [pickL, nthL, List.cons_append, List.nil_append]; rfl) ?_
      repeat (go_big_quiet_step (fail))
      refine wpQuiet_nil ?_
      refine wpS_loadA (i := 1) (d := some 47) (cells := ddC (x.d) (.slice pv x.d.b.v.length cv) (.slice pr x.d.r.p.2.2.length cr)) rfl (by rfl) rfl rfl (HM252.out.part 1 rfl (ddC_all)) Try.underlying43 rfl (by kernel_rfl) rfl ?_
      simp only [Act.put, List.setIfInBounds_toArray, List.set_cons_succ, List.set_cons_zero]
      refine wpS_does2 (i := 2) (d := some 48) (rem := [_, _, _]) (out := [_, _, _, _, _, _]) rfl (by rfl) rfl Try.call20 (Does.ofTwo (lwrite_d (listT [_, _]) dl (newL 3) x.d _ _ ⟨vL 0 rfl rowT_reads, hlv.out, vL 1 rfl rowT_reads, hlr.out⟩ (LgOk.new 3))) rfl rfl HM252.out [0, 2, 1] rfl covS_nil rfl rfl ?_
      rintro W285 hm284 -
      rw [hwr.out] at hm284 ⊢
      have HM286 := Lib.hid hm284
      clear hm284
      simp only [Act.put, List.setIfInBounds_toArray, List.set_cons_succ, List.set_cons_zero]
      refine wpS_this [3] rfl (by kernel_rfl) (by simp only [pickL, nthL, List.cons_append, List.nil_append]; rfl) ?_
      repeat (go_big_quiet_step (fail))
      refine wpQuiet_nil ?_
      refine wpS_nil ?_
      refine then_normal ?_
      refine wp_seq ?_
      refine wp_seq ?_
      refine wp_region_N [(0, 1), (1, 1), (2, 1), (3, 3), (4, 1)] (by kernel_rfl) ?_
      refine wpS_this [0, 1] rfl (by kernel_rfl) (by simp only [pickL, nthL, List.cons_append, List.nil_append]; rfl) ?_
      repeat (go_big_quiet_step (fail))
      refine wpQuiet_nil ?_
      refine wpS_loadA (i := 2) (d := some 51) (cells := ddC (x.d) (.slice x.vp x.vn x.vc) (.slice x.rp x.rn x.rc)) rfl (by rfl) rfl rfl (HM286.out.part 4 rfl (ddC_all)) Try.underlying43 rfl (by kernel_rfl) rfl ?_
      simp only [Act.put, List.setIfInBounds_toArray, List.set_cons_succ, List.set_cons_zero]
      refine wpS_does1 (i := 3) (d := some 52) (rem := [_, _, _, _, _]) (out := [_, _, _, _, _, _]) rfl (by rfl) rfl Try.call12 (lmay_d (oldT W0) _ _ x.d ⟨vOld hq.out.1, hlv.out, srcOld hq.out.2, hlr.out⟩) rfl HM286.out [5] rfl covS_nil rfl rfl ?_
      rintro W288 hm287 -
      rw [hmy.out]
      have HM289 := Lib.hid hm287
      clear hm287
      simp only [Act.put, List.setIfInBounds_toArray, List.set_cons_succ, List.set_cons_zero]
      refine wpS_this [4] rfl (by kernel_rfl) (by simp only [pickL, nthL, List.cons_append, List.nil_append]; rfl) ?_
      repeat (go_big_quiet_step (fail))
      refine wpQuiet_nil ?_
      refine wpS_nil ?_
      refine then_normal ?_
      refine wp_cond_false rfl ?_
      refine wp_skip ?_
      refine then_normal ?_
      refine wp_seq ?_
      refine wp_seq ?_
      refine wp_region_N [(0, 1)] (by kernel_rfl) ?_
      refine wpS_this [0] rfl (by kernel_rfl) (by simp only [pickL, nthL, List.cons_append, List.nil_append]; rfl) ?_
      repeat (go_big_quiet_step (fail))
      refine wpQuiet_nil ?_
      refine wpS_nil ?_
      refine then_normal ?_
      refine wp_block ?_
      refine wp_loop_F [4, 8, 9, 10, 54, 55, 56, 57, 58, 59, 60, 61, 62, 63, 64, 65, 66, 67, 68, 69, 70, 71, 72, 73, 74, 75, 76, 77, 78, 79, 80, 81, 82, 83, 84, 85, 86, 87, 88, 89, 90, 91, 92, 93, 94, 95, 96, 97, 98, 99, 100, 101, 102, 103, 104, 105, 106, 107, 108, 109] (fun n vs W' => ∃ (i nv nr : Nat) (pv pr : Option Addr) (cv cr : Nat) (us : List Vl) (ts : List Int), n = 2 - i ∧ vs 54 = .int .i64 (i : Int) ∧ i ≤ 2 ∧ us.length = nv ∧ ts.length = nr ∧ nv ≤ 4398046510976 ∧ nr ≤ 1000 ∧ Mem [boxT b214 (.cells (ddC x.d (.slice pv nv cv) (.slice pr nr cr)).toArray 43 (0, 0)), rowT elemV (.slice pv nv cv) us, rowT elemI (.slice pr nr cr) ts, lgT dl (own1 x.d), boxT b3 (.cells (ddC x.d (.slice x.vp x.vn x.vc) (.slice x.rp x.rn x.rc)).toArray 43 (0, 0)), oldT W0] H w W') (n0 := 2) ?_ ?_
      · exact ⟨0, x.d.b.v.length, x.d.r.p.2.2.length, _, _, _, _, _, _, rfl, rfl, Nat.zero_le _, rfl, rfl, hlv.out, hlr.out, (Mem.only (M := [_, _, _, _, _, _]) HM289.out [4, 2, 2, 1, 1, 0] rfl)⟩
      rintro n vs W' ⟨i, nv, nr, pv, pr, cv, cr, us, ts, rfl, e54, hi, hus', hts', hnv, hnr, hm⟩
      simp only [putAll, List.map_cons, List.map_nil, Act.put, List.setIfInBounds_toArray, List.set_cons_succ, List.set_cons_zero]
      rw [e54]
      clear e54
      have hus := Lib.hid hus'
      clear hus'
      have hts := Lib.hid hts'
      clear hts'
      have HM290 := Lib.hid hm
      clear hm
      refine wp_seq ?_
      refine wp_region_N [(0, 1)] (by kernel_rfl) ?_
      refine wpS_this [0] rfl (by kernel_rfl) (by simp only [pickL, nthL, List.cons_append, List.nil_append]; rfl) ?_
      repeat (go_big_quiet_step (fail))
      refine wpQuiet_nil ?_
      refine wpS_nil ?_
      refine then_normal ?_
      refine wp_seq ?_
      refine wp_cond_split rfl (fun h291 => ?_) (fun h291 => ?_)
      · have hi1 : i + 1 ≤ 2 := by have : (i : Int) < 2 := (by simpa using h291); omega
        clear h291
        refine wp_skip ?_
        refine then_normal ?_
        refine wp_seq ?_
        refine wp_block ?_
        refine wp_seq ?_
        refine wp_seq ?_
        refine wp_region_N [(0, 1), (1, 1), (2, 1), (3, 1), (4, 1)] (by kernel_rfl) ?_
        refine wpS_this [0, 1] rfl (by kernel_rfl) (by simp only [pickL, nthL, List.cons_append, List.nil_append]; rfl) ?_
        repeat (go_big_quiet_step (fail))
        refine wpQuiet_nil ?_
        refine wpS_load1 (i := 2) (d := some 58) (u := .slice pv nv cv) rfl (by rfl) rfl rfl (HM290.out.part1 0 rfl ddC_vals) Try.underlying31 rfl rfl ?_
        simp only [Act.put, List.setIfInBounds_toArray, List.set_cons_succ, List.set_cons_zero]
        refine wpS_this [3, 4] rfl (by kernel_rfl) (by simp only [pickL, nthL, List.cons_append, List.nil_append]; rfl) ?_
        repeat (go_big_quiet_step (fail))
        refine wpQuiet_nil ?_
        refine wpS_nil ?_
        refine then_normal ?_
        refine wp_block ?_
        refine wp_loop_F [8, 60, 61, 62, 63, 64, 65, 66, 67, 68, 69] (fun n ws W' => ∃ (k : Nat) (us : List Vl), n = nv - k ∧ ws 60 = .int .i64 (k : Int) ∧ k ≤ nv ∧ us.length = nv ∧ Mem [boxT b214 (.cells (ddC x.d (.slice pv nv cv) (.slice pr nr cr)).toArray 43 (0, 0)), rowT elemV (.slice pv nv cv) us, rowT elemI (.slice pr nr cr) ts, lgT dl (own1 x.d), boxT b3 (.cells (ddC x.d (.slice x.vp x.vn x.vc) (.slice x.rp x.rn x.rc)).toArray 43 (0, 0)), oldT W0] H w W') (n0 := nv) ?_ ?_
        · exact ⟨0, us, rfl, rfl, Nat.zero_le _, hus.out, (Mem.only (M := [_, _, _, _, _, _]) HM290.out [0, 0, 0, 0, 0, 0] rfl)⟩
        rintro n ws W' ⟨k, us2, rfl, e60, hk, hus2', hmm⟩
        simp only [putAll, List.map_cons, List.map_nil, Act.put, List.setIfInBounds_toArray, List.set_cons_succ, List.set_cons_zero]
        rw [e60]
        clear e60
        have hus2 := Lib.hid hus2'
        clear hus2'
        have HM292 := Lib.hid hmm
        clear hmm
        refine wp_seq ?_
        refine wp_region_N [(0, 1)] (by kernel_rfl) ?_
        refine wpS_this [0] rfl (by kernel_rfl) (by simp only [pickL, nthL, List.cons_append, List.nil_append]; rfl) ?_
        repeat (go_big_quiet_step (fail))
        refine wpQuiet_nil ?_
        refine wpS_nil ?_
        refine then_normal ?_
        refine wp_seq ?_
        refine wp_cond_split rfl (fun h293 => ?_) (fun h293 => ?_)
        · have hk1 : k + 1 ≤ nv := by have : (k : Int) < nv := (by simpa using h293); omega
          clear h293
          obtain ⟨y, hy'⟩ : ∃ q, us2[k]? = some q := ⟨_, List.getElem?_eq_getElem (by have := hus2.out; omega)⟩
          have hy := Lib.hid hy'
          clear hy'
          refine wp_skip ?_
          refine then_normal ?_
          refine wp_seq ?_
          refine wp_block ?_
          refine wp_seq ?_
          refine wp_region_N [(0, 1), (1, 1)] (by kernel_rfl) ?_
          refine wpS_this [0, 1] rfl (by kernel_rfl) (by simp only [pickL, nthL, List.cons_append, List.nil_append]; rfl) ?_
          repeat (go_big_quiet_step (fail))
          refine wpQuiet_nil ?_
          refine wpS_nil ?_
          refine then_normal ?_
          refine wp_region_N [(0, 1), (1, 1), (2, 1), (3, 1), (4, 1), (5, 1), (6, 3)] (by kernel_rfl) ?_
          refine wpS_this [0, 1] rfl (by kernel_rfl) (by simp only [pickL, nthL, List.cons_append, List.nil_append]; rfl) ?_
          repeat (go_big_quiet_step (fail))
          refine wpQuiet_nil ?_
          refine wpS_load1 (i := 2) (d := some 65) (u := .slice pv nv cv) rfl (by rfl) rfl rfl (HM292.out.part1 0 rfl ddC_vals) Try.underlying31 rfl rfl ?_
          simp only [Act.put, List.setIfInBounds_toArray, List.set_cons_succ, List.set_cons_zero]
          refine wpS_this [3] rfl (by kernel_rfl) (by simp only [pickL, nthL, List.cons_append, List.nil_append]; rfl) ?_
          repeat (go_big_quiet_step (fail))
          refine wpQuiet_nil ?_
          refine wpS_addrE (E := elemV) (i := 4) (d := some 67) (j := k) rfl (by rfl) rfl rfl rfl HM292.out 1 rfl (List.getElem?_eq_some_iff.1 hy.out).1 rfl ?_
          intro grv hprv
          simp only [Act.put, List.setIfInBounds_toArray, List.set_cons_succ, List.set_cons_zero]
          refine wpS_this [5] rfl (by kernel_rfl) (by simp only [pickL, nthL, List.cons_append, List.nil_append]; rfl) ?_
          repeat (go_big_quiet_step (fail))
          refine wpQuiet_nil ?_
          refine wpS_setE (E := elemV) (i := 6) (j := k) (q := 2) (v := .string spoilt) (x0 := y) (y0 := (y.1, spoilt)) (L2 := [_, _, _, _, _]) rfl (by rfl) rfl rfl rfl rfl (by kernel_rfl) rfl HM292.out 1 rfl hprv rfl (by decide) (hy.out) rfl covS_nil rfl ?_
          rintro W295 hm294 -
          have HM296 := Lib.hid hm294
          clear hm294
          refine wpS_nil ?_
          refine block_normal ?_
          refine then_normal ?_
          refine wp_region_N [(0, 1), (1, 1)] (by kernel_rfl) ?_
          refine wpS_this [0, 1] rfl (by kernel_rfl) (by simp only [pickL, nthL, List.cons_append, List.nil_append]; rfl) ?_
          repeat (go_big_quiet_step (fail))
          refine wpQuiet_nil ?_
          refine wpS_nil ?_
          refine then_normal ?_
          refine ⟨by kernel_rfl, ?_⟩
          refine ⟨nv - (k + 1), by omega, k + 1, us2.set k (y.1, spoilt), rfl, rfl, hk1, by rw [List.length_set]; exact hus2.out, (Mem.only (M := [_, _, _, _, _, _]) HM296.out [1, 0, 0, 0, 0, 0] rfl)⟩
        · clear h293
          refine wp_exit ?_
          refine then_exit (then_exit (block_exit ?_))
          refine then_normal ?_
          refine wp_seq ?_
          refine wp_seq ?_
          obtain ⟨us3, hus3e⟩ : ∃ q, us2 = q := ⟨_, rfl⟩
          rw [hus3e] at HM292
          have hus3 : Hid (us3.length = nv) := Lib.hid (hus3e ▸ hus2.out)
          clear hus3e
          refine wp_region_N [(0, 1), (1, 1), (2, 1), (3, 1), (4, 1), (5, 1)] (by kernel_rfl) ?_
          refine wpS_this [0, 1, 2] rfl (by kernel_rfl) (by simp only [pickL, nthL, List.cons_append, List.nil_append]; rfl) ?_
          repeat (go_big_quiet_step (fail))
          refine wpQuiet_nil ?_
          refine wpS_load1 (i := 3) (d := some 73) (u := .slice pr nr cr) rfl (by rfl) rfl rfl (HM292.out.part1 0 rfl ddC_tgts) Try.underlying34 rfl rfl ?_
          simp only [Act.put, List.setIfInBounds_toArray, List.set_cons_succ, List.set_cons_zero]
          refine wpS_this [4, 5] rfl (by kernel_rfl) (by simp only [pickL, nthL, List.cons_append, List.nil_append]; rfl) ?_
          repeat (go_big_quiet_step (fail))
          refine wpQuiet_nil ?_
          refine wpS_nil ?_
          refine then_normal ?_
          refine wp_block ?_
          refine wp_loop_F [9, 75, 76, 77, 78, 79, 80, 81, 82, 83, 84, 85] (fun n ws2 W' => ∃ (k : Nat) (ts : List Int), n = nr - k ∧ ws2 75 = .int .i64 (k : Int) ∧ k ≤ nr ∧ ts.length = nr ∧ Mem [boxT b214 (.cells (ddC x.d (.slice pv nv cv) (.slice pr nr cr)).toArray 43 (0, 0)), rowT elemV (.slice pv nv cv) us3, rowT elemI (.slice pr nr cr) ts, lgT dl (own1 x.d), boxT b3 (.cells (ddC x.d (.slice x.vp x.vn x.vc) (.slice x.rp x.rn x.rc)).toArray 43 (0, 0)), oldT W0] H w W') (n0 := nr) ?_ ?_
          · exact ⟨0, ts, rfl, rfl, Nat.zero_le _, hts.out, (Mem.only (M := [_, _, _, _, _, _]) HM292.out [0, 0, 0, 0, 0, 0] rfl)⟩
          rintro n ws2 W' ⟨k2, ts2, rfl, e75, hk2, hts2', hmu⟩
          simp only [putAll, List.map_cons, List.map_nil, Act.put, List.setIfInBounds_toArray, List.set_cons_succ, List.set_cons_zero]
          rw [e75]
          clear e75
          have hts2 := Lib.hid hts2'
          clear hts2'
          have HM297 := Lib.hid hmu
          clear hmu
          refine wp_seq ?_
          refine wp_region_N [(0, 1)] (by kernel_rfl) ?_
          refine wpS_this [0] rfl (by kernel_rfl) (by simp only [pickL, nthL, List.cons_append, List.nil_append]; rfl) ?_
          repeat (go_big_quiet_step (fail))
          refine wpQuiet_nil ?_
          refine wpS_nil ?_
          refine then_normal ?_
          refine wp_seq ?_
          refine wp_cond_split rfl (fun h298 => ?_) (fun h298 => ?_)
          · have hk21 : k2 + 1 ≤ nr := by have : (k2 : Int) < nr := (by simpa using h298); omega
            clear h298
            obtain ⟨y, hy'⟩ : ∃ q, ts2[k2]? = some q := ⟨_, List.getElem?_eq_getElem (by have := hts2.out; omega)⟩
            have hy := Lib.hid hy'
            clear hy'
            refine wp_skip ?_
            refine then_normal ?_
            refine wp_seq ?_
            refine wp_block ?_
            refine wp_seq ?_
            refine wp_region_N [(0, 1), (1, 1)] (by kernel_rfl) ?_
            refine wpS_this [0, 1] rfl (by kernel_rfl) (by simp only [pickL, nthL, List.cons_append, List.nil_append]; rfl) ?_
            repeat (go_big_quiet_step (fail))
            refine wpQuiet_nil ?_
            refine wpS_nil ?_
            refine then_normal ?_
            refine wp_region_N [(0, 1), (1, 1), (2, 1), (3, 1), (4, 1), (5, 1), (6, 1), (7, 3)] (by kernel_rfl) ?_
            refine wpS_this [0, 1, 2] rfl (by kernel_rfl) (by simp only [pickL, nthL, List.cons_append, List.nil_append]; rfl) ?_
            repeat (go_big_quiet_step (fail))
            refine wpQuiet_nil ?_
            refine wpS_load1 (i := 3) (d := some 81) (u := .slice pr nr cr) rfl (by rfl) rfl rfl (HM297.out.part1 0 rfl ddC_tgts) Try.underlying34 rfl rfl ?_
            simp only [Act.put, List.setIfInBounds_toArray, List.set_cons_succ, List.set_cons_zero]
            refine wpS_this [4, 5] rfl (by kernel_rfl) (by simp only [pickL, nthL, List.cons_append, List.nil_append]; rfl) ?_
            repeat (go_big_quiet_step (fail))
            refine wpQuiet_nil ?_
            refine wpS_addrE (E := elemI) (i := 6) (d := some 84) (j := k2) rfl (by rfl) rfl rfl rfl HM297.out 2 rfl (List.getElem?_eq_some_iff.1 hy.out).1 rfl ?_
            intro gri hpri
            simp only [Act.put, List.setIfInBounds_toArray, List.set_cons_succ, List.set_cons_zero]
            refine wpS_setE (E := elemI) (i := 7) (j := k2) (q := 0) (v := .int .i64 sp) (x0 := y) (y0 := sp) (L2 := [_, _, _, _, _]) rfl (by rfl) rfl rfl rfl rfl (by kernel_rfl) rfl HM297.out 2 rfl hpri rfl (by decide) (hy.out) rfl covS_nil rfl ?_
            rintro W300 hm299 -
            have HM301 := Lib.hid hm299
            clear hm299
            refine wpS_nil ?_
            refine block_normal ?_
            refine then_normal ?_
            refine wp_region_N [(0, 1), (1, 1)] (by kernel_rfl) ?_
            refine wpS_this [0, 1] rfl (by kernel_rfl) (by simp only [pickL, nthL, List.cons_append, List.nil_append]; rfl) ?_
            repeat (go_big_quiet_step (fail))
            refine wpQuiet_nil ?_
            refine wpS_nil ?_
            refine then_normal ?_
            refine ⟨by kernel_rfl, ?_⟩
            refine ⟨nr - (k2 + 1), by omega, k2 + 1, ts2.set k2 sp, rfl, rfl, hk21, by rw [List.length_set]; exact hts2.out, (Mem.only (M := [_, _, _, _, _, _]) HM301.out [1, 1, 0, 0, 0, 0] rfl)⟩
          · clear h298
            refine wp_exit ?_
            refine then_exit (then_exit (block_exit ?_))
            refine then_normal ?_
            refine wp_seq ?_
            obtain ⟨ts3, hts3e⟩ : ∃ q, ts2 = q := ⟨_, rfl⟩
            rw [hts3e] at HM297
            have hts3 : Hid (ts3.length = nr) := Lib.hid (hts3e ▸ hts2.out)
            clear hts3e
            refine wp_region_N [(0, 1), (1, 3), (2, 1)] (by kernel_rfl) ?_
            refine wpS_this [0] rfl (by kernel_rfl) (by simp only [pickL, nthL, List.cons_append, List.nil_append]; rfl) ?_
            repeat (go_big_quiet_step (fail))
            refine wpQuiet_nil ?_
            refine wpS_doesU1 (i := 1) (d := some 87) (rem := [_, _, _, _, _]) rfl (by rfl) rfl Try.call26 (lall_d dl (own1 x.d) (own_ok x.d)) rfl HM297.out [3] rfl covS_nil (fun _ => rfl) rfl ?_
            rintro u304 W303 hm302 -
            obtain ⟨zs, pz, cz, hzs', rfl, hm302q⟩ := Mem.alR hm302
            clear hm302
            obtain ⟨z, rfl, hzd'⟩ := one_row (hzs'.trans (congrArg Lg.l (if_pos hmy.out)))
            clear hzs'
            have hzd := Lib.hid hzd'
            clear hzd'
            have HM305 := Lib.hid hm302q
            clear hm302q
            simp only [Act.put, List.setIfInBounds_toArray, List.set_cons_succ, List.set_cons_zero]
            refine wpS_this [2] rfl (by kernel_rfl) (by simp only [pickL, nthL, List.cons_append, List.nil_append]; rfl) ?_
            repeat (go_big_quiet_step (fail))
            refine wpQuiet_nil ?_
            refine wpS_nil ?_
            refine then_normal ?_
            refine wp_seq ?_
            refine wp_seq ?_
            skip
            · have hsz : Hid (sameD z.d x.d = true) := Lib.hid (by rw [hzd.out]; exact sameD_refl _)
              refine wp_region_M (fun k => k ∈ ([] : List Nat)) [(0, 1), (1, 1), (2, 1), (3, 1), (4, 1), (5, 1), (6, 1), (7, 1), (8, 1), (9, 1), (10, 1), (11, 3), (12, 1), (13, 1), (14, 1)] (by kernel_rfl) (by kernel_rfl) HM305.out ?_
              intro W306 hm307
              have HM308 := Lib.hid hm307
              clear hm307
              refine wpS_this [0, 1, 2, 3, 4, 5, 6, 7] rfl (by kernel_rfl) (by simp only [pickL, nthL, List.cons_append, List.nil_append]; rfl) ?_
              repeat (go_big_quiet_step (fail))
              refine wpQuiet_nil ?_
              refine wpS_index (E := elemDx) (i := 8) (d := some 96) rfl (by rfl) rfl rfl rfl (rowAt_src (Mem.src HM308.out 0 rfl rowT_reads)) ((show ([z] : List Dx)[0]? = some z from rfl)) rfl ?_
              intro eb309 eo310 hc311
              simp only [Act.put, List.setIfInBounds_toArray, List.set_cons_succ, List.set_cons_zero]
              refine wpS_loadA (i := 9) (d := some 97) (cells := Dx.enc z) rfl (by rfl) rfl rfl hc311 Try.underlying43 rfl (by kernel_rfl) rfl ?_
              simp only [Act.put, List.setIfInBounds_toArray, List.set_cons_succ, List.set_cons_zero]
              refine wpS_loadA (i := 10) (d := some 98) (cells := ddC (x.d) (.slice x.vp x.vn x.vc) (.slice x.rp x.rn x.rc)) rfl (by rfl) rfl rfl (HM308.out.part 6 rfl (ddC_all)) Try.underlying43 rfl (by kernel_rfl) rfl ?_
              simp only [Act.put, List.setIfInBounds_toArray, List.set_cons_succ, List.set_cons_zero]
              refine wpS_does2 (i := 11) (d := some 99) (rem := [_, _, _, _, _]) (out := [_, _, _, _, _, _, _, _]) rfl (by rfl) rfl Try.call14 (Does.ofList (lsame_d (listT [_, _, _]) _ _ z.d (DxR.list (own_one hmy.out hzd.out) 1 rfl) _ _ x.d ⟨vL 2 rfl (vOld hq.out.1), hlv.out, vL 2 rfl (srcOld hq.out.2), hlr.out⟩)) rfl rfl HM308.out [0, 0, 5] rfl covS_nil rfl rfl ?_
              rintro W313 hm312 -
              rw [hsz.out]
              have HM314 := Lib.hid hm312
              clear hm312
              simp only [Act.put, List.setIfInBounds_toArray, List.set_cons_succ, List.set_cons_zero]
              refine wpS_this [12, 13, 14] rfl (by kernel_rfl) (by simp only [pickL, nthL, List.cons_append, List.nil_append]; rfl) ?_
              repeat (go_big_quiet_step (fail))
              refine wpQuiet_nil ?_
              refine wpS_nil ?_
              refine then_normal ?_
              refine wp_cond_false rfl ?_
              refine wp_skip ?_
              refine then_normal ?_
              refine wp_seq ?_
              refine wp_region_N [(0, 1), (1, 1), (2, 1)] (by kernel_rfl) ?_
              refine wpS_this [0, 1, 2] rfl (by kernel_rfl) (by simp only [pickL, nthL, List.cons_append, List.nil_append]; rfl) ?_
              repeat (go_big_quiet_step (fail))
              refine wpQuiet_nil ?_
              refine wpS_nil ?_
              refine then_normal ?_
              refine wp_cond_true rfl ?_
              have HZ' := Mem.outOne (Mem.only (M := [_, _, _, _, _, _, _, _]) HM314.out [1, 0, 0, 0, 0, 0, 0, 0] rfl)
              have HY' := Mem.outOne (Mem.only (M := [_, _, _, _, _, _, _, _, _]) HZ' [1, 0, 0, 0, 0, 0, 0, 0, 0] rfl)
              have HY := Lib.hid HY'
              clear HZ' HY'
              have hzn : Hid (z.vn = z.d.b.v.length) := Lib.hid (by obtain ⟨_, p, c, e, _⟩ := Mem.src HY.out 2 rfl (rowT_reads (E := elemV)); exact (Value.slice.inj e).2.1)
              have hzr : Hid (z.rn = z.d.r.p.2.2.length) := Lib.hid (by obtain ⟨_, p, c, e, _⟩ := Mem.src HY.out 0 rfl (rowT_reads (E := elemI)); exact (Value.slice.inj e).2.1)
              have hzb : Hid (z.d.b.v.length ≤ 32) := Lib.hid (by rw [hzd.out]; exact (mayD_len hmy.out).1)
              have hzb2 : Hid (z.d.r.p.2.2.length ≤ 16) := Lib.hid (by rw [hzd.out]; exact (mayD_len hmy.out).2)
              refine wp_region_N [(0, 1), (1, 1), (2, 1), (3, 3)] (by kernel_rfl) ?_
              refine wpS_this [0] rfl (by kernel_rfl) (by simp only [pickL, nthL, List.cons_append, List.nil_append]; rfl) ?_
              repeat (go_big_quiet_step (fail))
              refine wpQuiet_nil ?_
              refine wpS_index (E := elemDx) (i := 1) (d := some 107) rfl (by rfl) rfl rfl rfl (rowAt_src (Mem.src HY.out 3 rfl rowT_reads)) ((show ([z] : List Dx)[0]? = some z from rfl)) rfl ?_
              intro eb315 eo316 hc317
              simp only [Act.put, List.setIfInBounds_toArray, List.set_cons_succ, List.set_cons_zero]
              refine wpS_loadA (i := 2) (d := some 108) (cells := Dx.enc z) rfl (by rfl) rfl rfl hc317 Try.underlying43 rfl (by kernel_rfl) rfl ?_
              simp only [Act.put, List.setIfInBounds_toArray, List.set_cons_succ, List.set_cons_zero]
              refine wpS_storeA (i := 3) (L2 := [_, _, _, _, _, _, _, _, _]) (cs' := ddC (z.d) (.slice z.vp z.vn z.vc) (.slice z.rp z.rn z.rc)) rfl (by rfl) rfl rfl rfl (by kernel_rfl) (ddC_one _ _ _ _ _ _) HY.out 6 rfl rfl (by kernel_rfl) (by kernel_rfl) covS_nil rfl ?_
              rintro W319 hm318 -
              have HM320 := Lib.hid hm318
              clear hm318
              refine wpS_nil ?_
              refine block_normal ?_
              refine then_normal ?_
              refine wp_region_N [(0, 1), (1, 1)] (by kernel_rfl) ?_
              refine wpS_this [0, 1] rfl (by kernel_rfl) (by simp only [pickL, nthL, List.cons_append, List.nil_append]; rfl) ?_
              repeat (go_big_quiet_step (fail))
              refine wpQuiet_nil ?_
              refine wpS_nil ?_
              refine then_normal ?_
              refine ⟨by kernel_rfl, ?_⟩
              have hfin := (Mem.only (M := [_, _, _, _, _, _]) HM320.out [0, 2, 0, 3, 5, 2] rfl)
              rw [hzd.out] at hfin
              exact ⟨2 - (i + 1), by omega, i + 1, z.vn, z.rn, z.vp, z.rp, z.vc, z.rc, x.d.b.v, x.d.r.p.2.2, rfl, rfl, hi1, (by rw [hzn.out, hzd.out]), (by rw [hzr.out, hzd.out]), (by have := hzb.out; have := hzn.out; omega), (by have := hzb2.out; have := hzr.out; omega), hfin⟩
      · clear h291
        refine wp_exit ?_
        refine then_exit (then_exit (block_exit ?_))
        refine then_normal ?_
        refine wp_seq ?_
        have hss := Lib.hid (sameD_refl x.d)
        refine wp_region_N [(0, 1), (1, 1), (2, 3), (3, 1), (4, 3), (5, 1), (6, 1)] (by kernel_rfl) ?_
        refine wpS_loadA (i := 0) (d := some 110) (cells := ddC (x.d) (.slice x.vp x.vn x.vc) (.slice x.rp x.rn x.rc)) rfl (by rfl) rfl rfl (HM290.out.part 4 rfl (ddC_all)) Try.underlying43 rfl (by kernel_rfl) rfl ?_
        simp only [Act.put, List.setIfInBounds_toArray, List.set_cons_succ, List.set_cons_zero]
        refine wpS_loadA (i := 1) (d := some 111) (cells := ddC (x.d) (.slice x.vp x.vn x.vc) (.slice x.rp x.rn x.rc)) rfl (by rfl) rfl rfl (HM290.out.part 4 rfl (ddC_all)) Try.underlying43 rfl (by kernel_rfl) rfl ?_
        simp only [Act.put, List.setIfInBounds_toArray, List.set_cons_succ, List.set_cons_zero]
        refine wpS_does2 (i := 2) (d := some 112) (rem := [_, _, _, _, _]) (out := [_, _, _, _, _, _]) rfl (by rfl) rfl Try.call14 (lsame_d (oldT W0) _ _ x.d ⟨vOld hq.out.1, hlv.out, srcOld hq.out.2, hlr.out⟩ _ _ x.d ⟨vOld hq.out.1, hlv.out, srcOld hq.out.2, hlr.out⟩) rfl rfl HM290.out [5] rfl covS_nil rfl rfl ?_
        rintro W322 hm321 -
        rw [hss.out]
        have HM323 := Lib.hid hm321
        clear hm321
        simp only [Act.put, List.setIfInBounds_toArray, List.set_cons_succ, List.set_cons_zero]
        refine wpS_this [3] rfl (by kernel_rfl) (by simp only [pickL, nthL, List.cons_append, List.nil_append]; rfl) ?_
        repeat (go_big_quiet_step (fail))
        refine wpQuiet_nil ?_
        refine wpS_does0 (i := 4) (d := some 114) (rem := [_, _, _, _, _, _]) (out := [_, _, _, _, _, _]) rfl (by rfl) rfl Try.call9 (awake_d)  HM323.out [] rfl covS_nil rfl rfl ?_
        rintro W325 hm324 -
        have HM326 := Lib.hid hm324
        clear hm324
        simp only [Act.put, List.setIfInBounds_toArray, List.set_cons_succ, List.set_cons_zero]
        refine wpS_this [5, 6] rfl (by kernel_rfl) (by simp only [pickL, nthL, List.cons_append, List.nil_append]; rfl) ?_
        repeat (go_big_quiet_step (fail))
        refine wpQuiet_nil ?_
        refine wpS_nil ?_
        refine then_normal ?_
        refine wp_ret ?_
        refine bodyPost_ret (results_tmp rfl _ _ _) rfl ?_
        exact does_ret (Mem.only (M := [_]) HM326.out [0] rfl) rfl rfl

end Go.Proofs.Ytnahhbpaijfpbaa
