/- Bags: play. -/
import Derived.Test.YtneeidedadlioaaBgX
namespace Go.Proofs.Ytneeidedadlioaa
open Go Go.RowKit Go.BigFrame

def fa (w : Nat) : Int := 97 + (w : Int)
def fb (n : Nat) : Int := 48 + (n : Int) % 10
def tx (w n : Nat) : ByteArray := strOfNums [fa w, fb n]
theorem tx_size (w n : Nat) : (tx w n).size ≤ 64 := by
  show 2 ≤ 64
  decide
def mod3 (x : Int) : Nat := ((IntKind.u64.wrap x).tmod 3).toNat
theorem mod3_range (x : Int) : 0 ≤ (IntKind.u64.wrap x).tmod 3 ∧ (IntKind.u64.wrap x).tmod 3 < 3 := by
  have h : 0 ≤ IntKind.u64.wrap x := by
    unfold IntKind.wrap
    simp [IntKind.signed, IntKind.bits]
    omega
  rw [Int.tmod_eq_emod_of_nonneg h]
  omega
theorem mod3_lt (x : Int) : mod3 x < 3 := by
  have := mod3_range x
  unfold mod3
  omega
theorem mod3_eq {x : Int} {w : Nat} (h : mod3 x = w) : wrap64 ((IntKind.u64.wrap x).tmod 3) = (w : Int) := by
  have h1 := mod3_range x
  unfold mod3 at h
  have h2 : (IntKind.u64.wrap x).tmod 3 = (w : Int) := by omega
  rw [h2]
  unfold wrap64
  omega
def rwN (x : Rw) : Stp := (x.1, mod3 x.2.1, mod3 x.2.2)
theorem rwN_lt {l : List Rw} : ∀ s ∈ l.map rwN, s.2.1 < 3 ∧ s.2.2 < 3 := fun s h => by
  obtain ⟨x, _, rfl⟩ := List.mem_map.1 h
  exact ⟨mod3_lt _, mod3_lt _⟩
set_option maxHeartbeats 4000000 in
set_option maxRecDepth 100000 in
theorem bplay_d (R : At) (v : Value) (l : List Rw) (hR : ∀ W H, R.p W H → RowAt elemStp W v l) (hl : l.length ≤ 140737488351232) : DoesU Try.prog 7 #[v] [R] (fun u => [playT u (runT tx (l.map rwN) (min 40 l.length)), R]) := by
  intro w H hp
  have HM0 := Lib.hid (mem_refl hp)
  clear hp
  obtain ⟨p, cap, rfl, -⟩ := (HM0.out.row 0 rfl hR).form
  go_enter Try.func7, Try.ntmps7
  refine wp_seq ?_
  refine wp_region_N [(0, 3), (1, 1)] (by kernel_rfl) ?_
  refine wpS_alloc (i := 0) (dd := 2) (z := b3V (hb3 startT.b fun _ => (none, 0))) (cs := (b3C (hb3 startT.b fun _ => (none, 0))).toArray) rfl (by rfl) rfl (by kernel_rfl) rfl HM0.out covS_nil rfl ?_
  rintro b3 W2 hm1 -
  have HM4 := Lib.hid hm1
  clear hm1
  simp only [Act.put, List.setIfInBounds_toArray, List.set_cons_succ, List.set_cons_zero]
  refine wpS_this [1] rfl (by kernel_rfl) (by simp only [pickL, nthL, List.cons_append, List.nil_append]; rfl) ?_
  repeat (go_big_quiet_step (fail))
  refine wpQuiet_nil ?_
  refine wpS_nil ?_
  refine then_normal ?_
  refine wp_seq ?_
  refine wp_region_N [(0, 3)] (by kernel_rfl) ?_
  refine wpS_alloc (i := 0) (dd := 4) (z := b3V (hb3 startT.b fun _ => (none, 0))) (cs := (b3C (hb3 startT.b fun _ => (none, 0))).toArray) rfl (by rfl) rfl (by kernel_rfl) rfl HM4.out covS_nil rfl ?_
  rintro b7 W6 hm5 -
  have HM8 := Lib.hid hm5
  clear hm5
  simp only [Act.put, List.setIfInBounds_toArray, List.set_cons_succ, List.set_cons_zero]
  refine wpS_nil ?_
  refine then_normal ?_
  refine wp_seq ?_
  refine wp_region_N [(0, 3)] (by kernel_rfl) ?_
  refine wpS_alloc (i := 0) (dd := 5) (z := .agg #[.int .i64 0, .int .i64 0, .int .i64 0]) (cs := #[.int .i64 0, .int .i64 0, .int .i64 0]) rfl (by rfl) rfl (by kernel_rfl) rfl HM8.out covS_nil rfl ?_
  rintro b11 W10 hm9 -
  have HM12 := Lib.hid hm9
  clear hm9
  simp only [Act.put, List.setIfInBounds_toArray, List.set_cons_succ, List.set_cons_zero]
  refine wpS_nil ?_
  refine then_normal ?_
  refine wp_seq ?_
  refine wp_seq ?_
  refine wp_region_N [(0, 1), (1, 1), (2, 1)] (by kernel_rfl) ?_
  refine wpS_this [0, 1, 2] rfl (by kernel_rfl) (by simp only [pickL, nthL, List.cons_append, List.nil_append]; rfl) ?_
  repeat (go_big_quiet_step (fail))
  refine wpQuiet_nil ?_
  refine wpS_nil ?_
  refine then_normal ?_
  refine wp_block ?_
  refine wp_loop_F [3, 6, 7, 8, 9, 10, 11, 14, 15, 16, 17, 18, 19, 20, 21, 22, 23, 24, 25, 26, 27, 28, 29, 30, 31, 32, 33, 34, 35, 36, 37, 38, 39, 40, 41, 42, 43, 44, 45, 46, 47, 48, 49, 50, 51, 52, 53, 54, 55, 56, 57, 58, 59, 60, 61, 62, 63, 64, 65, 66, 67, 68, 69, 70, 71, 72, 73, 74, 75, 76, 77, 78, 79, 80, 81, 82, 83, 84, 85, 86, 87, 88, 89, 90, 91, 92, 93, 94, 95, 96, 97, 98, 99, 100, 101, 102, 103, 104, 105, 106, 107, 108, 109, 110, 111, 112, 113, 114, 115, 116, 117, 118, 119, 120] (fun n vs W' => ∃ (kk : Nat) (T : Tri) (P : Nat → Option Addr × Nat), n = l.length - kk ∧ vs 14 = .int .i64 (kk : Int) ∧ kk ≤ l.length ∧ kk ≤ 40 ∧ runT tx (l.map rwN) kk = some T ∧ Mem [rowB T.b P 0, rowB T.b P 1, rowB T.b P 2, boxT b11 (.cells (n3C T.n).toArray 53 (0, 0)), boxT b7 (.cells (b3C (hb3 T.b P)).toArray 28 (0, 0)), boxT b3 (.cells (b3C (hb3 startT.b fun _ => (none, 0))).toArray 28 (0, 0)), R] H w W') (n0 := l.length) ?_ ?_
  · exact ⟨0, startT, fun _ => (none, 0), rfl, rfl, Nat.zero_le _, Nat.zero_le _, rfl, Mem.nilRow elemV (Mem.nilRow elemV (Mem.nilRow elemV (Mem.only (M := [_, _, _, _]) HM12.out [0, 0, 0, 0] rfl)))⟩
  rintro n vs W' ⟨kk, T, P, rfl, e14, hkk, hk40, hrun', hm⟩
  simp only [putAll, List.map_cons, List.map_nil, Act.put, List.setIfInBounds_toArray, List.set_cons_succ, List.set_cons_zero]
  rw [e14]
  clear e14
  have hrun := Lib.hid hrun'
  clear hrun'
  have HM13 := Lib.hid hm
  clear hm
  refine wp_seq ?_
  refine wp_region_N [(0, 1)] (by kernel_rfl) ?_
  refine wpS_this [0] rfl (by kernel_rfl) (by simp only [pickL, nthL, List.cons_append, List.nil_append]; rfl) ?_
  repeat (go_big_quiet_step (fail))
  refine wpQuiet_nil ?_
  refine wpS_nil ?_
  refine then_normal ?_
  refine wp_seq ?_
  refine wp_cond_split rfl (fun h14 => ?_) (fun h14 => ?_)
  · have hkk1 : kk + 1 ≤ l.length := by have : (kk : Int) < ((l.length : Nat) : Int) := (by simpa using h14); omega
    clear h14
    obtain ⟨y, hy'⟩ : ∃ y, l[kk]? = some y := ⟨_, List.getElem?_eq_getElem (hkk1)⟩
    have hy := Lib.hid hy'
    clear hy'
    refine wp_skip ?_
    refine then_normal ?_
    refine wp_seq ?_
    refine wp_block ?_
    refine wp_seq ?_
    have hI : Hid (InvT tx T kk) := Lib.hid (runT_inv tx_size rwN_lt kk (by omega) T hrun.out)
    refine wp_region_N [(0, 1), (1, 1), (2, 1), (3, 3), (4, 1), (5, 3)] (by kernel_rfl) ?_
    refine wpS_this [0] rfl (by kernel_rfl) (by simp only [pickL, nthL, List.cons_append, List.nil_append]; rfl) ?_
    repeat (go_big_quiet_step (fail))
    refine wpQuiet_nil ?_
    refine wpS_index (E := elemStp) (i := 1) (d := some 17) rfl (by rfl) rfl rfl rfl (HM13.out.row 6 rfl hR) (hy.out) rfl ?_
    intro eb15 eo16 hc17
    simp only [Act.put, List.setIfInBounds_toArray, List.set_cons_succ, List.set_cons_zero]
    refine wpS_loadA (i := 2) (d := some 18) (cells := [.int .i64 y.1, .int .i64 y.2.1, .int .i64 y.2.2]) rfl (by rfl) rfl rfl hc17 Try.underlying55 rfl (by kernel_rfl) rfl ?_
    simp only [Act.put, List.setIfInBounds_toArray, List.set_cons_succ, List.set_cons_zero]
    refine wpS_alloc (i := 3) (dd := 7) (z := .agg #[.int .i64 0, .int .i64 0, .int .i64 0]) (cs := #[.int .i64 0, .int .i64 0, .int .i64 0]) rfl (by rfl) rfl (by kernel_rfl) rfl HM13.out covS_nil rfl ?_
    rintro b20 W19 hm18 -
    have HM21 := Lib.hid hm18
    clear hm18
    simp only [Act.put, List.setIfInBounds_toArray, List.set_cons_succ, List.set_cons_zero]
    refine wpS_this [4] rfl (by kernel_rfl) (by simp only [pickL, nthL, List.cons_append, List.nil_append]; rfl) ?_
    repeat (go_big_quiet_step (fail))
    refine wpQuiet_nil ?_
    refine wpS_storeA (i := 5) (L2 := [_, _, _, _, _, _, _]) (cs' := [.int .i64 y.1, .int .i64 y.2.1, .int .i64 y.2.2]) rfl (by rfl) rfl rfl rfl (by kernel_rfl) (by rfl) HM21.out 0 rfl rfl rfl rfl covS_nil rfl ?_
    rintro W23 hm22 -
    have HM24 := Lib.hid hm22
    clear hm22
    refine wpS_nil ?_
    refine then_normal ?_
    refine wp_seq ?_
    refine wp_seq ?_
    refine wp_region_N [(0, 1), (1, 1)] (by kernel_rfl) ?_
    refine wpS_this [0, 1] rfl (by kernel_rfl) (by simp only [pickL, nthL, List.cons_append, List.nil_append]; rfl) ?_
    repeat (go_big_quiet_step (fail))
    refine wpQuiet_nil ?_
    refine wpS_nil ?_
    refine then_normal ?_
    refine wp_cond_split rfl (fun h25 => ?_) (fun h25 => ?_)
    · have h40 : kk = 40 := by have : (40 : Int) ≤ (kk : Int) := (by simpa using h25); omega
      have hyes : Hid (runT tx (l.map rwN) (min 40 l.length) = some T) := Lib.hid (by rw [show min 40 l.length = kk by omega]; exact hrun.out)
      clear h25
      refine wp_exit ?_
      refine then_exit (block_out (by decide) (then_exit (then_exit (block_exit ?_))))
      refine then_normal ?_
      refine wp_seq ?_
      refine wp_region_N [(0, 1), (1, 3), (2, 1)] (by kernel_rfl) ?_
      refine wpS_loadA (i := 0) (d := some 121) (cells := b3C ((hb3 T.b P))) rfl (by rfl) rfl rfl (HM24.out.cells0 5 rfl) Try.underlying28 rfl (by kernel_rfl) rfl ?_
      simp only [Act.put, List.setIfInBounds_toArray, List.set_cons_succ, List.set_cons_zero]
      refine wpS_storeA (i := 1) (L2 := [_, _, _, _, _, _, _]) (cs' := b3C ((hb3 T.b P))) rfl (by rfl) rfl rfl rfl (by kernel_rfl) (b3C_one _) HM24.out 6 rfl rfl (by kernel_rfl) (by kernel_rfl) covS_nil rfl ?_
      rintro W27 hm26 -
      have HM28 := Lib.hid hm26
      clear hm26
      refine wpS_this [2] rfl (by kernel_rfl) (by simp only [pickL, nthL, List.cons_append, List.nil_append]; rfl) ?_
      repeat (go_big_quiet_step (fail))
      refine wpQuiet_nil ?_
      refine wpS_nil ?_
      refine then_normal ?_
      refine wp_ret ?_
      refine ret_cell_tmp rfl HM28.out 0 rfl rfl Try.underlying28 rfl (by kernel_rfl) rfl rfl ?_
      rw [hyes.out]
      exact doesU_ret (post := fun u => [playT u (some T), R]) (Mem.addEx P (Mem.addPr rfl (Mem.only (M := [_, _, _, _]) HM28.out [2, 2, 2, 4] rfl))) rfl
    · have hk39 : kk < 40 := by have : ¬ (40 : Int) ≤ (kk : Int) := (by simpa using h25); omega
      clear h25
      refine wp_skip ?_
      refine then_normal ?_
      refine wp_seq ?_
      obtain ⟨s, hsd'⟩ : ∃ s, rwN y = s := ⟨_, rfl⟩
      have hsl : Hid ((l.map rwN)[kk]? = some s) := Lib.hid (by rw [List.getElem?_map, hy.out, ← hsd']; rfl)
      obtain ⟨wi, hw'⟩ : ∃ w, mod3 y.2.1 = w := ⟨_, rfl⟩
      obtain ⟨oi, ho'⟩ : ∃ o, mod3 y.2.2 = o := ⟨_, rfl⟩
      have hw3 : wi < 3 := by rw [← hw']; exact mod3_lt _
      have ho3 : oi < 3 := by rw [← ho']; exact mod3_lt _
      have hse : Hid (s = (y.1, wi, oi)) := Lib.hid (by rw [← hsd', ← hw', ← ho']; rfl)
      clear hsd'
      have hwe := Lib.hid (mod3_eq hw')
      have hoe := Lib.hid (mod3_eq ho')
      clear hw' ho'
      have hnw : T.n wi ≤ kk := hI.out.nb wi hw3
      refine wp_region_M (fun k => k ∈ ([] : List Nat)) [(0, 1), (1, 1), (2, 1), (3, 1), (4, 1), (5, 1), (6, 1), (7, 1), (8, 1), (9, 1), (10, 1), (11, 1)] (by kernel_rfl) (by kernel_rfl) HM24.out ?_
      intro W29 hm30
      have HM31 := Lib.hid hm30
      clear hm30
      have Cb7 := Mem.cell HM31.out 0 rfl
      refine wpS_this [0, 1, 2, 3] rfl (by kernel_rfl) (by simp only [pickL, nthL, List.cons_append, List.nil_append]; rfl) ?_
      repeat (go_big_quiet_step (fail))
      refine wpQuiet_nil ?_
      clear Cb7
      refine wpS_this [4] rfl (by kernel_rfl) (by simp only [pickL, nthL, List.cons_append, List.nil_append]; rfl) ?_
      repeat (go_big_quiet_step (fail))
      refine wpQuiet_nil ?_
      rw [hwe.out]
      have Cb7 := Mem.cell HM31.out 0 rfl
      refine wpS_this [5, 6, 7, 8] rfl (by kernel_rfl) (by simp only [pickL, nthL, List.cons_append, List.nil_append]; rfl) ?_
      repeat (go_big_quiet_step (fail))
      refine wpQuiet_nil ?_
      clear Cb7
      refine wpS_this [9] rfl (by kernel_rfl) (by simp only [pickL, nthL, List.cons_append, List.nil_append]; rfl) ?_
      repeat (go_big_quiet_step (fail))
      refine wpQuiet_nil ?_
      rw [hoe.out]
      refine wpS_this [10, 11] rfl (by kernel_rfl) (by simp only [pickL, nthL, List.cons_append, List.nil_append]; rfl) ?_
      repeat (go_big_quiet_step (fail))
      refine wpQuiet_nil ?_
      refine wpS_nil ?_
      refine then_normal ?_
      refine wp_seq ?_
      refine wp_region_N [(0, 1), (1, 1), (2, 1), (3, 3), (4, 3), (5, 1)] (by kernel_rfl) ?_
      refine wpS_this [0] rfl (by kernel_rfl) (by simp only [pickL, nthL, List.cons_append, List.nil_append]; rfl) ?_
      repeat (go_big_quiet_step (fail))
      refine wpQuiet_nil ?_
      refine wpS_read (i := 1) (d := some 32) rfl (by rfl) (run_addrB3 hw3 rfl rfl rfl) rfl ?_
      simp only [Act.put, List.setIfInBounds_toArray, List.set_cons_succ, List.set_cons_zero]
      refine wpS_loadA (i := 2) (d := some 33) (cells := hbC ((hb3 T.b P) wi)) rfl (by rfl) rfl rfl (HM31.out.part 5 rfl (b3C_sub hw3)) Try.underlying27 rfl (by kernel_rfl) rfl ?_
      simp only [Act.put, List.setIfInBounds_toArray, List.set_cons_succ, List.set_cons_zero]
      refine wpS_alloc (i := 3) (dd := 10) (z := bgV noB.k (.slice none 0 0)) (cs := (bgC noB.k (.slice none 0 0)).toArray) rfl (by rfl) rfl (by kernel_rfl) rfl HM31.out covS_nil rfl ?_
      rintro b34 W33 hm32 -
      have HM35 := Lib.hid hm32
      clear hm32
      simp only [Act.put, List.setIfInBounds_toArray, List.set_cons_succ, List.set_cons_zero]
      refine wpS_storeA (i := 4) (L2 := [_, _, _, _, _, _, _, _]) (cs' := bgC (((hb3 T.b P) wi).f) (.slice ((hb3 T.b P) wi).p ((hb3 T.b P) wi).n ((hb3 T.b P) wi).c)) rfl (by rfl) rfl rfl rfl (by kernel_rfl) (bgC_one _ _ _) HM35.out 0 rfl rfl (by kernel_rfl) (by kernel_rfl) covS_nil rfl ?_
      rintro W37 hm36 -
      have HM38 := Lib.hid hm36
      clear hm36
      refine wpS_this [5] rfl (by kernel_rfl) (by simp only [pickL, nthL, List.cons_append, List.nil_append]; rfl) ?_
      repeat (go_big_quiet_step (fail))
      refine wpQuiet_nil ?_
      refine wpS_nil ?_
      refine then_normal ?_
      refine wp_seq ?_
      refine wp_seq ?_
      refine wp_region_N [(0, 1), (1, 1)] (by kernel_rfl) ?_
      have Cb7 := Mem.cell HM38.out 1 rfl
      refine wpS_this [0, 1] rfl (by kernel_rfl) (by simp only [pickL, nthL, List.cons_append, List.nil_append]; rfl) ?_
      repeat (go_big_quiet_step (fail))
      refine wpQuiet_nil ?_
      clear Cb7
      refine wpS_nil ?_
      refine then_normal ?_
      refine wp_block ?_
      refine wp_seq ?_
      obtain ⟨x, e, hx'⟩ : ∃ x e, actT tx T s = (x, e) := ⟨_, _, rfl⟩
      have hsb : Hid ((stepT tx T s).b = upd T.b wi x) := Lib.hid (by unfold stepT; rw [hx']; rw [hse.out])
      have hxa := hx'
      have hx := Lib.hid hx'
      clear hx'
      rw [hse.out] at hxa
      unfold actT at hxa
      by_cases hd : y.1 = 0
      · have g1 : (y.1 == 0) = true := beq_iff_eq.2 hd
        dsimp only at hxa
        rw [if_pos hd] at hxa
        have hq := Lib.hid hxa
        clear hxa
        have hsn : Hid ((stepT tx T s).n = T.n) := Lib.hid (by rw [hse.out]; exact if_pos hd)
        replace hd := Lib.hid hd
        refine wp_region_N [(0, 1), (1, 1)] (by kernel_rfl) ?_
        refine wpS_this [0, 1] rfl (by kernel_rfl) (by simp only [pickL, nthL, List.cons_append, List.nil_append]; rfl) ?_
        repeat (go_big_quiet_step (fail))
        refine wpQuiet_nil ?_
        refine wpS_nil ?_
        refine then_normal ?_
        refine wp_cond_true rfl ?_
        refine wp_region_M (fun k => k ∈ ([b34, b7] : List Nat)) [(0, 1), (1, 1), (2, 1), (3, 1), (4, 1), (5, 1), (6, 3), (7, 1), (8, 1), (9, 0), (10, 4), (11, 1)] (by kernel_rfl) (by kernel_rfl) HM38.out ?_
        intro W39 hm40
        have HM41 := Lib.hid hm40
        clear hm40
        refine wpS_this [0] rfl (by kernel_rfl) (by simp only [pickL, nthL, List.cons_append, List.nil_append]; rfl) ?_
        repeat (go_big_quiet_step (fail))
        refine wpQuiet_nil ?_
        refine wpS_read (i := 1) (d := some 69) rfl (by rfl) (run_addrB3 hw3 rfl rfl rfl) rfl ?_
        simp only [Act.put, List.setIfInBounds_toArray, List.set_cons_succ, List.set_cons_zero]
        refine wpS_loadA (i := 2) (d := some 70) (cells := hbC ((hb3 T.b P) wi)) rfl (by rfl) rfl rfl (HM41.out.part 6 rfl (b3C_sub hw3)) Try.underlying27 rfl (by kernel_rfl) rfl ?_
        simp only [Act.put, List.setIfInBounds_toArray, List.set_cons_succ, List.set_cons_zero]
        refine wpS_this [3] rfl (by kernel_rfl) (by simp only [pickL, nthL, List.cons_append, List.nil_append]; rfl) ?_
        repeat (go_big_quiet_step (fail))
        refine wpQuiet_nil ?_
        refine wpS_read (i := 4) (d := some 72) rfl (by rfl) (run_addrB3 ho3 rfl rfl rfl) rfl ?_
        simp only [Act.put, List.setIfInBounds_toArray, List.set_cons_succ, List.set_cons_zero]
        refine wpS_loadA (i := 5) (d := some 73) (cells := hbC ((hb3 T.b P) oi)) rfl (by rfl) rfl rfl (HM41.out.part 6 rfl (b3C_sub ho3)) Try.underlying27 rfl (by kernel_rfl) rfl ?_
        simp only [Act.put, List.setIfInBounds_toArray, List.set_cons_succ, List.set_cons_zero]
        refine wpS_doesU2 (i := 6) (d := some 74) (rem := [_, _, _, _, _, _]) rfl (by rfl) rfl Try.call9 (DoesU.ofList (bjoin_d (listT [_, _, _]) _ (T.b wi) (reads3 hw3) (Nat.le_trans (hI.out.may wi hw3).len (by decide)) _ (T.b oi) (reads3 ho3) (Nat.le_trans (hI.out.may oi ho3).len (by decide)) x e hq.out)) rfl rfl HM41.out [2, 2, 2] rfl (covS_box 0 rfl (covS_box 3 rfl covS_nil)) (fun _ => rfl) rfl ?_
        rintro u45 W43 hm42 hg44
        obtain ⟨px, cx, rfl, hm42q⟩ := Mem.bagE rfl hm42
        clear hm42
        have HM46 := Lib.hid hm42q
        clear hm42q
        simp only [Act.put, List.setIfInBounds_toArray, List.set_cons_succ, List.set_cons_zero]
        refine wpS_this [7, 8] rfl (by kernel_rfl) (by simp only [pickL, nthL, List.cons_append, List.nil_append]; rfl) ?_
        repeat (go_big_quiet_step (fail))
        refine wpQuiet_nil ?_
        refine wpS_all [9] rfl (by kernel_rfl) (by simp only [pickL, nthL, List.cons_append, List.nil_append]; rfl) ?_
        repeat (go_big_quiet_step (fail))
        refine wpQuiet_nil ?_
        refine wpS_storeA4 (i := 10) (L2 := [_, _, _, _, _, _, _, _, _]) (cs' := bgC (x.k) (.slice px x.v.length cx)) rfl (by rfl) rfl rfl rfl (by kernel_rfl) (bgC_one _ _ _) HM46.out 4 rfl rfl (by kernel_rfl) (by kernel_rfl)  rfl ?_
        rintro W49 hm48
        have HM50 := Lib.hid hm48
        clear hm48
        refine wpS_this [11] rfl (by kernel_rfl) (by simp only [pickL, nthL, List.cons_append, List.nil_append]; rfl) ?_
        repeat (go_big_quiet_step (fail))
        refine wpQuiet_nil ?_
        refine wpS_nil ?_
        refine block_normal ?_
        refine then_normal ?_
        refine wp_seq ?_
        refine wp_seq ?_
        rcases (show e = 5 ∨ (e ≠ 5 ∧ e ≠ 0) ∨ e = 0 from by omega) with rfl | ⟨h5, h0⟩ | rfl
        · have hbad : (5 : Int) ≠ 0 := by decide
          have hno : Hid (runT tx (l.map rwN) (min 40 l.length) = none) := Lib.hid (runT_fail hrun.out hsl.out (by rw [hx.out]; exact hbad) (by omega))
          refine wp_region_N [(0, 1), (1, 1)] (by kernel_rfl) ?_
          refine wpS_this [0, 1] rfl (by kernel_rfl) (by simp only [pickL, nthL, List.cons_append, List.nil_append]; rfl) ?_
          repeat (go_big_quiet_step (fail))
          refine wpQuiet_nil ?_
          refine wpS_nil ?_
          refine then_normal ?_
          refine wp_cond_true rfl ?_
          refine wp_seq ?_
          refine wp_region_N [(0, 1), (1, 3), (2, 1)] (by kernel_rfl) ?_
          refine wpS_loadA (i := 0) (d := some 113) (cells := b3C ((hb3 T.b P))) rfl (by rfl) rfl rfl (HM50.out.cells0 7 rfl) Try.underlying28 rfl (by kernel_rfl) rfl ?_
          simp only [Act.put, List.setIfInBounds_toArray, List.set_cons_succ, List.set_cons_zero]
          refine wpS_storeA (i := 1) (L2 := [_, _, _, _, _, _, _, _, _]) (cs' := b3C ((hb3 T.b P))) rfl (by rfl) rfl rfl rfl (by kernel_rfl) (b3C_one _) HM50.out 8 rfl rfl (by kernel_rfl) (by kernel_rfl) covS_nil rfl ?_
          rintro W52 hm51 -
          have HM53 := Lib.hid hm51
          clear hm51
          refine wpS_this [2] rfl (by kernel_rfl) (by simp only [pickL, nthL, List.cons_append, List.nil_append]; rfl) ?_
          repeat (go_big_quiet_step (fail))
          refine wpQuiet_nil ?_
          refine wpS_nil ?_
          refine then_normal ?_
          refine wp_ret ?_
          refine then_ret (block_ret (then_ret (then_ret (block_ret (then_ret ?_)))))
          refine ret_cell_tmp rfl HM53.out 0 rfl rfl Try.underlying28 rfl (by kernel_rfl) rfl rfl ?_
          rw [hno.out]
          exact doesU_ret (post := fun u => [playT u (none), R]) (Mem.addEx _ (Mem.addPr rfl (Mem.only (M := [_]) HM53.out [9] rfl))) rfl
        · have g3 : (e == 5) = false := beq_eq_false_iff_ne.2 h5
          have g4 : (e != 0) = true := bne_iff_ne.2 h0
          have hbad : e ≠ 0 := h0
          have hno : Hid (runT tx (l.map rwN) (min 40 l.length) = none) := Lib.hid (runT_fail hrun.out hsl.out (by rw [hx.out]; exact hbad) (by omega))
          replace h5 := Lib.hid h5
          replace h0 := Lib.hid h0
          replace hbad := Lib.hid hbad
          refine wp_region_N [(0, 1), (1, 1)] (by kernel_rfl) ?_
          refine wpS_this [0, 1] rfl (by kernel_rfl) (by simp only [pickL, nthL, List.cons_append, List.nil_append]; rfl) ?_
          repeat (go_big_quiet_step (fail))
          refine wpQuiet_nil ?_
          refine wpS_nil ?_
          refine then_normal ?_
          refine wp_cond_false rfl ?_
          refine wp_skip ?_
          refine then_normal ?_
          refine wp_seq ?_
          refine wp_seq ?_
          refine wp_region_N [(0, 1), (1, 1)] (by kernel_rfl) ?_
          refine wpS_this [0, 1] rfl (by kernel_rfl) (by simp only [pickL, nthL, List.cons_append, List.nil_append]; rfl) ?_
          repeat (go_big_quiet_step (fail))
          refine wpQuiet_nil ?_
          refine wpS_nil ?_
          refine then_normal ?_
          refine wp_cond_true rfl ?_
          refine wp_seq ?_
          refine wp_region_N [(0, 1), (1, 3), (2, 1)] (by kernel_rfl) ?_
          refine wpS_loadA (i := 0) (d := some 116) (cells := b3C ((hb3 T.b P))) rfl (by rfl) rfl rfl (HM50.out.cells0 7 rfl) Try.underlying28 rfl (by kernel_rfl) rfl ?_
          simp only [Act.put, List.setIfInBounds_toArray, List.set_cons_succ, List.set_cons_zero]
          refine wpS_storeA (i := 1) (L2 := [_, _, _, _, _, _, _, _, _]) (cs' := b3C ((hb3 T.b P))) rfl (by rfl) rfl rfl rfl (by kernel_rfl) (b3C_one _) HM50.out 8 rfl rfl (by kernel_rfl) (by kernel_rfl) covS_nil rfl ?_
          rintro W55 hm54 -
          have HM56 := Lib.hid hm54
          clear hm54
          refine wpS_this [2] rfl (by kernel_rfl) (by simp only [pickL, nthL, List.cons_append, List.nil_append]; rfl) ?_
          repeat (go_big_quiet_step (fail))
          refine wpQuiet_nil ?_
          refine wpS_nil ?_
          refine then_normal ?_
          refine wp_ret ?_
          refine then_ret (block_ret (then_ret (then_ret (block_ret (then_ret ?_)))))
          refine ret_cell_tmp rfl HM56.out 0 rfl rfl Try.underlying28 rfl (by kernel_rfl) rfl rfl ?_
          rw [hno.out]
          exact doesU_ret (post := fun u => [playT u (none), R]) (Mem.addEx _ (Mem.addPr rfl (Mem.only (M := [_]) HM56.out [9] rfl))) rfl
        · have hs0 : Hid ((actT tx T s).2 = 0) := Lib.hid (by rw [hx.out])
          refine wp_region_N [(0, 1), (1, 1)] (by kernel_rfl) ?_
          refine wpS_this [0, 1] rfl (by kernel_rfl) (by simp only [pickL, nthL, List.cons_append, List.nil_append]; rfl) ?_
          repeat (go_big_quiet_step (fail))
          refine wpQuiet_nil ?_
          refine wpS_nil ?_
          refine then_normal ?_
          refine wp_cond_false rfl ?_
          refine wp_skip ?_
          refine then_normal ?_
          refine wp_seq ?_
          refine wp_seq ?_
          refine wp_region_N [(0, 1), (1, 1)] (by kernel_rfl) ?_
          refine wpS_this [0, 1] rfl (by kernel_rfl) (by simp only [pickL, nthL, List.cons_append, List.nil_append]; rfl) ?_
          repeat (go_big_quiet_step (fail))
          refine wpQuiet_nil ?_
          refine wpS_nil ?_
          refine then_normal ?_
          refine wp_cond_false rfl ?_
          refine wp_skip ?_
          refine then_normal ?_
          refine wp_region_N [(0, 1), (1, 1), (2, 1), (3, 3)] (by kernel_rfl) ?_
          refine wpS_this [0] rfl (by kernel_rfl) (by simp only [pickL, nthL, List.cons_append, List.nil_append]; rfl) ?_
          repeat (go_big_quiet_step (fail))
          refine wpQuiet_nil ?_
          refine wpS_loadA (i := 1) (d := some 118) (cells := bgC (x.k) (.slice px x.v.length cx)) rfl (by rfl) rfl rfl (HM50.out.part 0 rfl (bgC_all)) Try.underlying27 rfl (by kernel_rfl) rfl ?_
          simp only [Act.put, List.setIfInBounds_toArray, List.set_cons_succ, List.set_cons_zero]
          refine wpS_read (i := 2) (d := some 119) rfl (by rfl) (run_addrB3 hw3 rfl rfl rfl) rfl ?_
          simp only [Act.put, List.setIfInBounds_toArray, List.set_cons_succ, List.set_cons_zero]
          refine wpS_storeA (i := 3) (L2 := [_, _, _, _, _, _, _, _, _]) (cs' := b3C (upd (hb3 T.b P) wi ⟨x.k, px, x.v.length, cx⟩)) rfl (by rfl) rfl rfl rfl (by kernel_rfl) (bgC_one _ _ _) HM50.out 7 rfl rfl (Nat.ble_eq_true_of_le (by rw [b3C_len]; show _ + 9 ≤ _; omega)) (b3C_set hw3 ⟨x.k, px, x.v.length, cx⟩) covS_nil rfl ?_
          rintro W58 hm57 -
          have HM59 := Lib.hid hm57
          clear hm57
          refine wpS_nil ?_
          refine block_normal ?_
          refine then_normal ?_
          refine wp_region_N [(0, 1), (1, 1)] (by kernel_rfl) ?_
          refine wpS_this [0, 1] rfl (by kernel_rfl) (by simp only [pickL, nthL, List.cons_append, List.nil_append]; rfl) ?_
          repeat (go_big_quiet_step (fail))
          refine wpQuiet_nil ?_
          refine wpS_nil ?_
          refine then_normal ?_
          refine ⟨by kernel_rfl, ?_⟩
          refine ⟨l.length - (kk + 1), by omega, kk + 1, stepT tx T s, upd P wi (px, cx), rfl, rfl, hkk1, by omega, runT_step hrun.out hsl.out hs0.out, ?_⟩
          rw [hsb.out, hsn.out, ← hb3_upd]
          exact Mem.setRow hw3 (Mem.only (M := [_, _, _, _, _, _, _, _]) HM59.out [2, 2, 2, 2, 3, 0, 2, 2] rfl)
      · have g1 : (y.1 == 0) = false := beq_eq_false_iff_ne.2 hd
        dsimp only at hxa
        rw [if_neg hd] at hxa
        have hsn : Hid ((stepT tx T s).n = upd T.n wi (T.n wi + 1)) := Lib.hid (by rw [hse.out]; exact if_neg hd)
        refine wp_region_N [(0, 1), (1, 1)] (by kernel_rfl) ?_
        refine wpS_this [0, 1] rfl (by kernel_rfl) (by simp only [pickL, nthL, List.cons_append, List.nil_append]; rfl) ?_
        repeat (go_big_quiet_step (fail))
        refine wpQuiet_nil ?_
        refine wpS_nil ?_
        refine then_normal ?_
        refine wp_cond_false rfl ?_
        refine wp_seq ?_
        by_cases hd1 : y.1 = 1
        · have g2 : (y.1 == 1) = true := beq_iff_eq.2 hd1
          rw [if_pos hd1] at hxa
          have hq := Lib.hid hxa
          clear hxa
          replace hd := Lib.hid hd
          replace hd1 := Lib.hid hd1
          refine wp_region_N [(0, 1), (1, 1)] (by kernel_rfl) ?_
          refine wpS_this [0, 1] rfl (by kernel_rfl) (by simp only [pickL, nthL, List.cons_append, List.nil_append]; rfl) ?_
          repeat (go_big_quiet_step (fail))
          refine wpQuiet_nil ?_
          refine wpS_nil ?_
          refine then_normal ?_
          refine wp_cond_true rfl ?_
          refine wp_seq ?_
          refine wp_region_N [(0, 1), (1, 1), (2, 1), (3, 1), (4, 1), (5, 3)] (by kernel_rfl) ?_
          refine wpS_this [0] rfl (by kernel_rfl) (by simp only [pickL, nthL, List.cons_append, List.nil_append]; rfl) ?_
          repeat (go_big_quiet_step (fail))
          refine wpQuiet_nil ?_
          refine wpS_read (i := 1) (d := some 80) rfl (by rfl) (run_addrN3 hw3 rfl rfl rfl) rfl ?_
          simp only [Act.put, List.setIfInBounds_toArray, List.set_cons_succ, List.set_cons_zero]
          refine wpS_load1 (i := 2) (d := some 81) (u := _) rfl (by rfl) rfl rfl ((HM38.out.cellL 5 rfl _).trans (n3C_at hw3)) Try.underlying3 rfl rfl ?_
          simp only [Act.put, List.setIfInBounds_toArray, List.set_cons_succ, List.set_cons_zero]
          refine wpS_this [3] rfl (by kernel_rfl) (by simp only [pickL, nthL, List.cons_append, List.nil_append]; rfl) ?_
          repeat (go_big_quiet_step (fail))
          refine wpQuiet_nil ?_
          refine wpS_read (i := 4) (d := some 83) rfl (by rfl) (run_addrN3 hw3 rfl rfl rfl) rfl ?_
          simp only [Act.put, List.setIfInBounds_toArray, List.set_cons_succ, List.set_cons_zero]
          refine wpS_store1 (i := 5) (v := .int _ _) (L2 := [_, _, _, _, _, _, _, _]) (cs' := n3C (upd T.n wi (T.n wi + 1))) rfl (by rfl) rfl rfl rfl rfl (by kernel_rfl) rfl HM38.out 5 rfl rfl (Nat.ble_eq_true_of_le (by show _ + 1 ≤ 3; omega)) (n3C_set hw3 (T.n wi + 1)) covS_nil rfl ?_
          rintro W61 hm60 -
          have HM62 := Lib.hid hm60
          clear hm60
          refine wpS_nil ?_
          refine then_normal ?_
          refine wp_region_M (fun k => k ∈ ([b34, b7, b11] : List Nat)) [(0, 0), (1, 0), (2, 2), (3, 0), (4, 0), (5, 0), (6, 2), (7, 0), (8, 0), (9, 0), (10, 2), (11, 0), (12, 1), (13, 1), (14, 1), (15, 1), (16, 1), (17, 1), (18, 1), (19, 1), (20, 1), (21, 3), (22, 1), (23, 3), (24, 1), (25, 1), (26, 0), (27, 4), (28, 1)] (by kernel_rfl) (by kernel_rfl) HM62.out ?_
          intro W63 hm64
          have HM65 := Lib.hid hm64
          clear hm64
          refine wpS_all [0] rfl (by kernel_rfl) (by simp only [pickL, nthL, List.cons_append, List.nil_append]; rfl) ?_
          repeat (go_big_quiet_step (fail))
          refine wpQuiet_nil ?_
          refine wpS_read0 (i := 1) (d := some 86) rfl (by rfl) (fun _ => run_addrB3 hw3 rfl rfl rfl) rfl ?_
          simp only [Act.put, List.setIfInBounds_toArray, List.set_cons_succ, List.set_cons_zero]
          refine wpS_loadA2 (i := 2) (d := some 87) (cells := hbC ((hb3 T.b P) wi)) rfl (by rfl) rfl rfl (by simp) (HM65.out.part 6 rfl (b3C_sub hw3)) Try.underlying27 rfl (by kernel_rfl) rfl ?_
          simp only [Act.put, List.setIfInBounds_toArray, List.set_cons_succ, List.set_cons_zero]
          refine wpS_all [3] rfl (by kernel_rfl) (by simp only [pickL, nthL, List.cons_append, List.nil_append]; rfl) ?_
          repeat (go_big_quiet_step (fail))
          refine wpQuiet_nil ?_
          refine wpS_read0 (i := 4) (d := some 89) rfl (by rfl) (fun _ => run_addrB3 hw3 rfl rfl rfl) rfl ?_
          simp only [Act.put, List.setIfInBounds_toArray, List.set_cons_succ, List.set_cons_zero]
          refine wpS_all [5] rfl (by kernel_rfl) (by simp only [pickL, nthL, List.cons_append, List.nil_append]; rfl) ?_
          repeat (go_big_quiet_step (fail))
          refine wpQuiet_nil ?_
          refine wpS_loadA2 (i := 6) (d := some 91) (cells := vcC ((hb3 T.b P) wi).f) rfl (by rfl) rfl rfl (by simp) (HM65.out.part 6 rfl (b3C_vc hw3)) Try.underlying24 rfl (by kernel_rfl) rfl ?_
          simp only [Act.put, List.setIfInBounds_toArray, List.set_cons_succ, List.set_cons_zero]
          refine wpS_all [7, 8] rfl (by kernel_rfl) (by simp only [pickL, nthL, List.cons_append, List.nil_append]; rfl) ?_
          repeat (go_big_quiet_step (fail))
          refine wpQuiet_nil ?_
          refine wpS_read0 (i := 9) (d := some 94) rfl (by rfl) (fun _ => run_addrN3 hw3 rfl rfl rfl) rfl ?_
          simp only [Act.put, List.setIfInBounds_toArray, List.set_cons_succ, List.set_cons_zero]
          refine wpS_load12 (i := 10) (d := some 95) (u := _) rfl (by rfl) rfl rfl (by simp) ((HM65.out.cellL 0 rfl _).trans (n3C_atU hw3)) Try.underlying3 rfl rfl ?_
          simp only [Act.put, List.setIfInBounds_toArray, List.set_cons_succ, List.set_cons_zero]
          refine wpS_all [11] rfl (by kernel_rfl) (by simp only [pickL, nthL, List.cons_append, List.nil_append]; rfl) ?_
          repeat (go_big_quiet_step (fail))
          refine wpQuiet_nil ?_
          refine wpS_this [12, 13, 14, 15] rfl (by kernel_rfl) (by simp only [pickL, nthL, List.cons_append, List.nil_append]; rfl) ?_
          repeat (go_big_quiet_step (fail))
          refine wpQuiet_nil ?_
          refine wpS_read (i := 16) (d := some 101) rfl (by rfl) (run_addrN3 hw3 rfl rfl rfl) rfl ?_
          simp only [Act.put, List.setIfInBounds_toArray, List.set_cons_succ, List.set_cons_zero]
          refine wpS_load1 (i := 17) (d := some 102) (u := _) rfl (by rfl) rfl rfl ((HM65.out.cellL 0 rfl _).trans (n3C_atU hw3)) Try.underlying3 rfl rfl ?_
          simp only [Act.put, List.setIfInBounds_toArray, List.set_cons_succ, List.set_cons_zero]
          refine wpS_this [18, 19, 20] rfl (by kernel_rfl) (by simp only [pickL, nthL, List.cons_append, List.nil_append]; rfl) ?_
          repeat (go_big_quiet_step (fail))
          refine wpQuiet_nil ?_
          refine wpS_buildN elemU (i := 21) (dd := 106) (n := 2) (xs := [fa wi, fb (T.n wi + 1)]) (cs := #[.int .u8 (fa wi), .int .u8 (fb (T.n wi + 1))]) rfl (by rfl) (fun _ => by kernel_rfl) rfl rfl HM65.out (covS_box 1 rfl (covS_box 6 rfl (covS_box 0 rfl covS_nil))) rfl ?_
          rintro b69 W70 hm71 hg72
          have HM73 := Lib.hid hm71
          clear hm71
          simp only [Act.put, List.setIfInBounds_toArray, List.set_cons_succ, List.set_cons_zero]
          refine wpS_read (i := 22) (d := some 107) rfl (by rfl) (run_textR (HM73.out.row 0 rfl vRow) rfl rfl) rfl ?_
          simp only [Act.put, List.setIfInBounds_toArray, List.set_cons_succ, List.set_cons_zero]
          refine wpS_doesU4 (i := 23) (d := some 108) (rem := [_, _, _, _, _, _, _]) rfl (by rfl) rfl Try.call16 (DoesU.ofList (bput_d (listT [_, _, _]) _ (T.b wi) (reads3 hw3) (Nat.le_trans (hI.out.may wi hw3).len (by decide)) (T.b wi).k (wi : Int) ((T.n wi + 1 : Nat) : Int) (tx wi (T.n wi + 1)) x e hq.out)) rfl rfl rfl rfl HM73.out [4, 4, 4] rfl (covS_box 2 rfl (covS_box 4 rfl (covS_box 1 rfl covS_nil))) (fun _ => rfl) rfl ?_
          rintro u77 W75 hm74 hg76
          obtain ⟨px, cx, rfl, hm74q⟩ := Mem.bagE rfl hm74
          clear hm74
          have HM78 := Lib.hid hm74q
          clear hm74q
          simp only [Act.put, List.setIfInBounds_toArray, List.set_cons_succ, List.set_cons_zero]
          refine wpS_this [24, 25] rfl (by kernel_rfl) (by simp only [pickL, nthL, List.cons_append, List.nil_append]; rfl) ?_
          repeat (go_big_quiet_step (fail))
          refine wpQuiet_nil ?_
          refine wpS_all [26] rfl (by kernel_rfl) (by simp only [pickL, nthL, List.cons_append, List.nil_append]; rfl) ?_
          repeat (go_big_quiet_step (fail))
          refine wpQuiet_nil ?_
          refine wpS_storeA4 (i := 27) (L2 := [_, _, _, _, _, _, _, _, _, _]) (cs' := bgC (x.k) (.slice px x.v.length cx)) rfl (by rfl) rfl rfl rfl (by kernel_rfl) (bgC_one _ _ _) HM78.out 6 rfl rfl (by kernel_rfl) (by kernel_rfl)  rfl ?_
          rintro W81 hm80
          have HM82 := Lib.hid hm80
          clear hm80
          refine wpS_this [28] rfl (by kernel_rfl) (by simp only [pickL, nthL, List.cons_append, List.nil_append]; rfl) ?_
          repeat (go_big_quiet_step (fail))
          refine wpQuiet_nil ?_
          refine wpS_nil ?_
          refine block_normal ?_
          refine then_normal ?_
          refine wp_seq ?_
          refine wp_seq ?_
          rcases (show e = 5 ∨ (e ≠ 5 ∧ e ≠ 0) ∨ e = 0 from by omega) with rfl | ⟨h5, h0⟩ | rfl
          · have hbad : (5 : Int) ≠ 0 := by decide
            have hno : Hid (runT tx (l.map rwN) (min 40 l.length) = none) := Lib.hid (runT_fail hrun.out hsl.out (by rw [hx.out]; exact hbad) (by omega))
            refine wp_region_N [(0, 1), (1, 1)] (by kernel_rfl) ?_
            refine wpS_this [0, 1] rfl (by kernel_rfl) (by simp only [pickL, nthL, List.cons_append, List.nil_append]; rfl) ?_
            repeat (go_big_quiet_step (fail))
            refine wpQuiet_nil ?_
            refine wpS_nil ?_
            refine then_normal ?_
            refine wp_cond_true rfl ?_
            refine wp_seq ?_
            refine wp_region_N [(0, 1), (1, 3), (2, 1)] (by kernel_rfl) ?_
            refine wpS_loadA (i := 0) (d := some 113) (cells := b3C ((hb3 T.b P))) rfl (by rfl) rfl rfl (HM82.out.cells0 8 rfl) Try.underlying28 rfl (by kernel_rfl) rfl ?_
            simp only [Act.put, List.setIfInBounds_toArray, List.set_cons_succ, List.set_cons_zero]
            refine wpS_storeA (i := 1) (L2 := [_, _, _, _, _, _, _, _, _, _]) (cs' := b3C ((hb3 T.b P))) rfl (by rfl) rfl rfl rfl (by kernel_rfl) (b3C_one _) HM82.out 9 rfl rfl (by kernel_rfl) (by kernel_rfl) covS_nil rfl ?_
            rintro W84 hm83 -
            have HM85 := Lib.hid hm83
            clear hm83
            refine wpS_this [2] rfl (by kernel_rfl) (by simp only [pickL, nthL, List.cons_append, List.nil_append]; rfl) ?_
            repeat (go_big_quiet_step (fail))
            refine wpQuiet_nil ?_
            refine wpS_nil ?_
            refine then_normal ?_
            refine wp_ret ?_
            refine then_ret (block_ret (then_ret (then_ret (block_ret (then_ret ?_)))))
            refine ret_cell_tmp rfl HM85.out 0 rfl rfl Try.underlying28 rfl (by kernel_rfl) rfl rfl ?_
            rw [hno.out]
            exact doesU_ret (post := fun u => [playT u (none), R]) (Mem.addEx _ (Mem.addPr rfl (Mem.only (M := [_]) HM85.out [10] rfl))) rfl
          · have g3 : (e == 5) = false := beq_eq_false_iff_ne.2 h5
            have g4 : (e != 0) = true := bne_iff_ne.2 h0
            have hbad : e ≠ 0 := h0
            have hno : Hid (runT tx (l.map rwN) (min 40 l.length) = none) := Lib.hid (runT_fail hrun.out hsl.out (by rw [hx.out]; exact hbad) (by omega))
            replace h5 := Lib.hid h5
            replace h0 := Lib.hid h0
            replace hbad := Lib.hid hbad
            refine wp_region_N [(0, 1), (1, 1)] (by kernel_rfl) ?_
            refine wpS_this [0, 1] rfl (by kernel_rfl) (by simp only [pickL, nthL, List.cons_append, List.nil_append]; rfl) ?_
            repeat (go_big_quiet_step (fail))
            refine wpQuiet_nil ?_
            refine wpS_nil ?_
            refine then_normal ?_
            refine wp_cond_false rfl ?_
            refine wp_skip ?_
            refine then_normal ?_
            refine wp_seq ?_
            refine wp_seq ?_
            refine wp_region_N [(0, 1), (1, 1)] (by kernel_rfl) ?_
            refine wpS_this [0, 1] rfl (by kernel_rfl) (by simp only [pickL, nthL, List.cons_append, List.nil_append]; rfl) ?_
            repeat (go_big_quiet_step (fail))
            refine wpQuiet_nil ?_
            refine wpS_nil ?_
            refine then_normal ?_
            refine wp_cond_true rfl ?_
            refine wp_seq ?_
            refine wp_region_N [(0, 1), (1, 3), (2, 1)] (by kernel_rfl) ?_
            refine wpS_loadA (i := 0) (d := some 116) (cells := b3C ((hb3 T.b P))) rfl (by rfl) rfl rfl (HM82.out.cells0 8 rfl) Try.underlying28 rfl (by kernel_rfl) rfl ?_
            simp only [Act.put, List.setIfInBounds_toArray, List.set_cons_succ, List.set_cons_zero]
            refine wpS_storeA (i := 1) (L2 := [_, _, _, _, _, _, _, _, _, _]) (cs' := b3C ((hb3 T.b P))) rfl (by rfl) rfl rfl rfl (by kernel_rfl) (b3C_one _) HM82.out 9 rfl rfl (by kernel_rfl) (by kernel_rfl) covS_nil rfl ?_
            rintro W87 hm86 -
            have HM88 := Lib.hid hm86
            clear hm86
            refine wpS_this [2] rfl (by kernel_rfl) (by simp only [pickL, nthL, List.cons_append, List.nil_append]; rfl) ?_
            repeat (go_big_quiet_step (fail))
            refine wpQuiet_nil ?_
            refine wpS_nil ?_
            refine then_normal ?_
            refine wp_ret ?_
            refine then_ret (block_ret (then_ret (then_ret (block_ret (then_ret ?_)))))
            refine ret_cell_tmp rfl HM88.out 0 rfl rfl Try.underlying28 rfl (by kernel_rfl) rfl rfl ?_
            rw [hno.out]
            exact doesU_ret (post := fun u => [playT u (none), R]) (Mem.addEx _ (Mem.addPr rfl (Mem.only (M := [_]) HM88.out [10] rfl))) rfl
          · have hs0 : Hid ((actT tx T s).2 = 0) := Lib.hid (by rw [hx.out])
            refine wp_region_N [(0, 1), (1, 1)] (by kernel_rfl) ?_
            refine wpS_this [0, 1] rfl (by kernel_rfl) (by simp only [pickL, nthL, List.cons_append, List.nil_append]; rfl) ?_
            repeat (go_big_quiet_step (fail))
            refine wpQuiet_nil ?_
            refine wpS_nil ?_
            refine then_normal ?_
            refine wp_cond_false rfl ?_
            refine wp_skip ?_
            refine then_normal ?_
            refine wp_seq ?_
            refine wp_seq ?_
            refine wp_region_N [(0, 1), (1, 1)] (by kernel_rfl) ?_
            refine wpS_this [0, 1] rfl (by kernel_rfl) (by simp only [pickL, nthL, List.cons_append, List.nil_append]; rfl) ?_
            repeat (go_big_quiet_step (fail))
            refine wpQuiet_nil ?_
            refine wpS_nil ?_
            refine then_normal ?_
            refine wp_cond_false rfl ?_
            refine wp_skip ?_
            refine then_normal ?_
            refine wp_region_N [(0, 1), (1, 1), (2, 1), (3, 3)] (by kernel_rfl) ?_
            refine wpS_this [0] rfl (by kernel_rfl) (by simp only [pickL, nthL, List.cons_append, List.nil_append]; rfl) ?_
            repeat (go_big_quiet_step (fail))
            refine wpQuiet_nil ?_
            refine wpS_loadA (i := 1) (d := some 118) (cells := bgC (x.k) (.slice px x.v.length cx)) rfl (by rfl) rfl rfl (HM82.out.part 0 rfl (bgC_all)) Try.underlying27 rfl (by kernel_rfl) rfl ?_
            simp only [Act.put, List.setIfInBounds_toArray, List.set_cons_succ, List.set_cons_zero]
            refine wpS_read (i := 2) (d := some 119) rfl (by rfl) (run_addrB3 hw3 rfl rfl rfl) rfl ?_
            simp only [Act.put, List.setIfInBounds_toArray, List.set_cons_succ, List.set_cons_zero]
            refine wpS_storeA (i := 3) (L2 := [_, _, _, _, _, _, _, _, _, _]) (cs' := b3C (upd (hb3 T.b P) wi ⟨x.k, px, x.v.length, cx⟩)) rfl (by rfl) rfl rfl rfl (by kernel_rfl) (bgC_one _ _ _) HM82.out 8 rfl rfl (Nat.ble_eq_true_of_le (by rw [b3C_len]; show _ + 9 ≤ _; omega)) (b3C_set hw3 ⟨x.k, px, x.v.length, cx⟩) covS_nil rfl ?_
            rintro W90 hm89 -
            have HM91 := Lib.hid hm89
            clear hm89
            refine wpS_nil ?_
            refine block_normal ?_
            refine then_normal ?_
            refine wp_region_N [(0, 1), (1, 1)] (by kernel_rfl) ?_
            refine wpS_this [0, 1] rfl (by kernel_rfl) (by simp only [pickL, nthL, List.cons_append, List.nil_append]; rfl) ?_
            repeat (go_big_quiet_step (fail))
            refine wpQuiet_nil ?_
            refine wpS_nil ?_
            refine then_normal ?_
            refine ⟨by kernel_rfl, ?_⟩
            refine ⟨l.length - (kk + 1), by omega, kk + 1, stepT tx T s, upd P wi (px, cx), rfl, rfl, hkk1, by omega, runT_step hrun.out hsl.out hs0.out, ?_⟩
            rw [hsb.out, hsn.out, ← hb3_upd]
            exact Mem.setRow hw3 (Mem.only (M := [_, _, _, _, _, _, _, _]) HM91.out [2, 2, 2, 2, 3, 0, 3, 3] rfl)
        · have g2 : (y.1 == 1) = false := beq_eq_false_iff_ne.2 hd1
          rw [if_neg hd1] at hxa
          have hq := Lib.hid hxa
          clear hxa
          replace hd := Lib.hid hd
          replace hd1 := Lib.hid hd1
          refine wp_region_N [(0, 1), (1, 1)] (by kernel_rfl) ?_
          refine wpS_this [0, 1] rfl (by kernel_rfl) (by simp only [pickL, nthL, List.cons_append, List.nil_append]; rfl) ?_
          repeat (go_big_quiet_step (fail))
          refine wpQuiet_nil ?_
          refine wpS_nil ?_
          refine then_normal ?_
          refine wp_cond_false rfl ?_
          refine wp_seq ?_
          refine wp_region_N [(0, 1), (1, 1), (2, 1), (3, 1), (4, 1), (5, 3)] (by kernel_rfl) ?_
          refine wpS_this [0] rfl (by kernel_rfl) (by simp only [pickL, nthL, List.cons_append, List.nil_append]; rfl) ?_
          repeat (go_big_quiet_step (fail))
          refine wpQuiet_nil ?_
          refine wpS_read (i := 1) (d := some 37) rfl (by rfl) (run_addrN3 hw3 rfl rfl rfl) rfl ?_
          simp only [Act.put, List.setIfInBounds_toArray, List.set_cons_succ, List.set_cons_zero]
          refine wpS_load1 (i := 2) (d := some 38) (u := _) rfl (by rfl) rfl rfl ((HM38.out.cellL 5 rfl _).trans (n3C_at hw3)) Try.underlying3 rfl rfl ?_
          simp only [Act.put, List.setIfInBounds_toArray, List.set_cons_succ, List.set_cons_zero]
          refine wpS_this [3] rfl (by kernel_rfl) (by simp only [pickL, nthL, List.cons_append, List.nil_append]; rfl) ?_
          repeat (go_big_quiet_step (fail))
          refine wpQuiet_nil ?_
          refine wpS_read (i := 4) (d := some 40) rfl (by rfl) (run_addrN3 hw3 rfl rfl rfl) rfl ?_
          simp only [Act.put, List.setIfInBounds_toArray, List.set_cons_succ, List.set_cons_zero]
          refine wpS_store1 (i := 5) (v := .int _ _) (L2 := [_, _, _, _, _, _, _, _]) (cs' := n3C (upd T.n wi (T.n wi + 1))) rfl (by rfl) rfl rfl rfl rfl (by kernel_rfl) rfl HM38.out 5 rfl rfl (Nat.ble_eq_true_of_le (by show _ + 1 ≤ 3; omega)) (n3C_set hw3 (T.n wi + 1)) covS_nil rfl ?_
          rintro W93 hm92 -
          have HM94 := Lib.hid hm92
          clear hm92
          refine wpS_nil ?_
          refine then_normal ?_
          refine wp_region_M (fun k => k ∈ ([b34, b7, b11] : List Nat)) [(0, 0), (1, 0), (2, 2), (3, 0), (4, 0), (5, 0), (6, 0), (7, 2), (8, 0), (9, 1), (10, 1), (11, 1), (12, 1), (13, 1), (14, 1), (15, 1), (16, 1), (17, 1), (18, 3), (19, 1), (20, 3), (21, 1), (22, 1), (23, 0), (24, 4), (25, 1)] (by kernel_rfl) (by kernel_rfl) HM94.out ?_
          intro W95 hm96
          have HM97 := Lib.hid hm96
          clear hm96
          refine wpS_all [0] rfl (by kernel_rfl) (by simp only [pickL, nthL, List.cons_append, List.nil_append]; rfl) ?_
          repeat (go_big_quiet_step (fail))
          refine wpQuiet_nil ?_
          refine wpS_read0 (i := 1) (d := some 43) rfl (by rfl) (fun _ => run_addrB3 hw3 rfl rfl rfl) rfl ?_
          simp only [Act.put, List.setIfInBounds_toArray, List.set_cons_succ, List.set_cons_zero]
          refine wpS_loadA2 (i := 2) (d := some 44) (cells := hbC ((hb3 T.b P) wi)) rfl (by rfl) rfl rfl (by simp) (HM97.out.part 6 rfl (b3C_sub hw3)) Try.underlying27 rfl (by kernel_rfl) rfl ?_
          simp only [Act.put, List.setIfInBounds_toArray, List.set_cons_succ, List.set_cons_zero]
          refine wpS_all [3, 4, 5] rfl (by kernel_rfl) (by simp only [pickL, nthL, List.cons_append, List.nil_append]; rfl) ?_
          repeat (go_big_quiet_step (fail))
          refine wpQuiet_nil ?_
          refine wpS_read0 (i := 6) (d := some 48) rfl (by rfl) (fun _ => run_addrN3 hw3 rfl rfl rfl) rfl ?_
          simp only [Act.put, List.setIfInBounds_toArray, List.set_cons_succ, List.set_cons_zero]
          refine wpS_load12 (i := 7) (d := some 49) (u := _) rfl (by rfl) rfl rfl (by simp) ((HM97.out.cellL 0 rfl _).trans (n3C_atU hw3)) Try.underlying3 rfl rfl ?_
          simp only [Act.put, List.setIfInBounds_toArray, List.set_cons_succ, List.set_cons_zero]
          refine wpS_all [8] rfl (by kernel_rfl) (by simp only [pickL, nthL, List.cons_append, List.nil_append]; rfl) ?_
          repeat (go_big_quiet_step (fail))
          refine wpQuiet_nil ?_
          refine wpS_this [9, 10, 11, 12] rfl (by kernel_rfl) (by simp only [pickL, nthL, List.cons_append, List.nil_append]; rfl) ?_
          repeat (go_big_quiet_step (fail))
          refine wpQuiet_nil ?_
          refine wpS_read (i := 13) (d := some 55) rfl (by rfl) (run_addrN3 hw3 rfl rfl rfl) rfl ?_
          simp only [Act.put, List.setIfInBounds_toArray, List.set_cons_succ, List.set_cons_zero]
          refine wpS_load1 (i := 14) (d := some 56) (u := _) rfl (by rfl) rfl rfl ((HM97.out.cellL 0 rfl _).trans (n3C_atU hw3)) Try.underlying3 rfl rfl ?_
          simp only [Act.put, List.setIfInBounds_toArray, List.set_cons_succ, List.set_cons_zero]
          refine wpS_this [15, 16, 17] rfl (by kernel_rfl) (by simp only [pickL, nthL, List.cons_append, List.nil_append]; rfl) ?_
          repeat (go_big_quiet_step (fail))
          refine wpQuiet_nil ?_
          refine wpS_buildN elemU (i := 18) (dd := 60) (n := 2) (xs := [fa wi, fb (T.n wi + 1)]) (cs := #[.int .u8 (fa wi), .int .u8 (fb (T.n wi + 1))]) rfl (by rfl) (fun _ => by kernel_rfl) rfl rfl HM97.out (covS_box 1 rfl (covS_box 6 rfl (covS_box 0 rfl covS_nil))) rfl ?_
          rintro b101 W102 hm103 hg104
          have HM105 := Lib.hid hm103
          clear hm103
          simp only [Act.put, List.setIfInBounds_toArray, List.set_cons_succ, List.set_cons_zero]
          refine wpS_read (i := 19) (d := some 61) rfl (by rfl) (run_textR (HM105.out.row 0 rfl vRow) rfl rfl) rfl ?_
          simp only [Act.put, List.setIfInBounds_toArray, List.set_cons_succ, List.set_cons_zero]
          refine wpS_doesU4 (i := 20) (d := some 62) (rem := [_, _, _, _, _, _, _]) rfl (by rfl) rfl Try.call16 (DoesU.ofList (bput_d (listT [_, _, _]) _ (T.b wi) (reads3 hw3) (Nat.le_trans (hI.out.may wi hw3).len (by decide)) (fun _ => 0) (wi : Int) ((T.n wi + 1 : Nat) : Int) (tx wi (T.n wi + 1)) x e hq.out)) rfl rfl rfl rfl HM105.out [4, 4, 4] rfl (covS_box 2 rfl (covS_box 4 rfl (covS_box 1 rfl covS_nil))) (fun _ => rfl) rfl ?_
          rintro u109 W107 hm106 hg108
          obtain ⟨px, cx, rfl, hm106q⟩ := Mem.bagE rfl hm106
          clear hm106
          have HM110 := Lib.hid hm106q
          clear hm106q
          simp only [Act.put, List.setIfInBounds_toArray, List.set_cons_succ, List.set_cons_zero]
          refine wpS_this [21, 22] rfl (by kernel_rfl) (by simp only [pickL, nthL, List.cons_append, List.nil_append]; rfl) ?_
          repeat (go_big_quiet_step (fail))
          refine wpQuiet_nil ?_
          refine wpS_all [23] rfl (by kernel_rfl) (by simp only [pickL, nthL, List.cons_append, List.nil_append]; rfl) ?_
          repeat (go_big_quiet_step (fail))
          refine wpQuiet_nil ?_
          refine wpS_storeA4 (i := 24) (L2 := [_, _, _, _, _, _, _, _, _, _]) (cs' := bgC (x.k) (.slice px x.v.length cx)) rfl (by rfl) rfl rfl rfl (by kernel_rfl) (bgC_one _ _ _) HM110.out 6 rfl rfl (by kernel_rfl) (by kernel_rfl)  rfl ?_
          rintro W113 hm112
          have HM114 := Lib.hid hm112
          clear hm112
          refine wpS_this [25] rfl (by kernel_rfl) (by simp only [pickL, nthL, List.cons_append, List.nil_append]; rfl) ?_
          repeat (go_big_quiet_step (fail))
          refine wpQuiet_nil ?_
          refine wpS_nil ?_
          refine block_normal ?_
          refine then_normal ?_
          refine wp_seq ?_
          refine wp_seq ?_
          rcases (show e = 5 ∨ (e ≠ 5 ∧ e ≠ 0) ∨ e = 0 from by omega) with rfl | ⟨h5, h0⟩ | rfl
          · have hbad : (5 : Int) ≠ 0 := by decide
            have hno : Hid (runT tx (l.map rwN) (min 40 l.length) = none) := Lib.hid (runT_fail hrun.out hsl.out (by rw [hx.out]; exact hbad) (by omega))
            refine wp_region_N [(0, 1), (1, 1)] (by kernel_rfl) ?_
            refine wpS_this [0, 1] rfl (by kernel_rfl) (by simp only [pickL, nthL, List.cons_append, List.nil_append]; rfl) ?_
            repeat (go_big_quiet_step (fail))
            refine wpQuiet_nil ?_
            refine wpS_nil ?_
            refine then_normal ?_
            refine wp_cond_true rfl ?_
            refine wp_seq ?_
            refine wp_region_N [(0, 1), (1, 3), (2, 1)] (by kernel_rfl) ?_
            refine wpS_loadA (i := 0) (d := some 113) (cells := b3C ((hb3 T.b P))) rfl (by rfl) rfl rfl (HM114.out.cells0 8 rfl) Try.underlying28 rfl (by kernel_rfl) rfl ?_
            simp only [Act.put, List.setIfInBounds_toArray, List.set_cons_succ, List.set_cons_zero]
            refine wpS_storeA (i := 1) (L2 := [_, _, _, _, _, _, _, _, _, _]) (cs' := b3C ((hb3 T.b P))) rfl (by rfl) rfl rfl rfl (by kernel_rfl) (b3C_one _) HM114.out 9 rfl rfl (by kernel_rfl) (by kernel_rfl) covS_nil rfl ?_
            rintro W116 hm115 -
            have HM117 := Lib.hid hm115
            clear hm115
            refine wpS_this [2] rfl (by kernel_rfl) (by simp only [pickL, nthL, List.cons_append, List.nil_append]; rfl) ?_
            repeat (go_big_quiet_step (fail))
            refine wpQuiet_nil ?_
            refine wpS_nil ?_
            refine then_normal ?_
            refine wp_ret ?_
            refine then_ret (block_ret (then_ret (then_ret (block_ret (then_ret ?_)))))
            refine ret_cell_tmp rfl HM117.out 0 rfl rfl Try.underlying28 rfl (by kernel_rfl) rfl rfl ?_
            rw [hno.out]
            exact doesU_ret (post := fun u => [playT u (none), R]) (Mem.addEx _ (Mem.addPr rfl (Mem.only (M := [_]) HM117.out [10] rfl))) rfl
          · have g3 : (e == 5) = false := beq_eq_false_iff_ne.2 h5
            have g4 : (e != 0) = true := bne_iff_ne.2 h0
            have hbad : e ≠ 0 := h0
            have hno : Hid (runT tx (l.map rwN) (min 40 l.length) = none) := Lib.hid (runT_fail hrun.out hsl.out (by rw [hx.out]; exact hbad) (by omega))
            replace h5 := Lib.hid h5
            replace h0 := Lib.hid h0
            replace hbad := Lib.hid hbad
            refine wp_region_N [(0, 1), (1, 1)] (by kernel_rfl) ?_
            refine wpS_this [0, 1] rfl (by kernel_rfl) (by simp only [pickL, nthL, List.cons_append, List.nil_append]; rfl) ?_
            repeat (go_big_quiet_step (fail))
            refine wpQuiet_nil ?_
            refine wpS_nil ?_
            refine then_normal ?_
            refine wp_cond_false rfl ?_
            refine wp_skip ?_
            refine then_normal ?_
            refine wp_seq ?_
            refine wp_seq ?_
            refine wp_region_N [(0, 1), (1, 1)] (by kernel_rfl) ?_
            refine wpS_this [0, 1] rfl (by kernel_rfl) (by simp only [pickL, nthL, List.cons_append, List.nil_append]; rfl) ?_
            repeat (go_big_quiet_step (fail))
            refine wpQuiet_nil ?_
            refine wpS_nil ?_
            refine then_normal ?_
            refine wp_cond_true rfl ?_
            refine wp_seq ?_
            refine wp_region_N [(0, 1), (1, 3), (2, 1)] (by kernel_rfl) ?_
            refine wpS_loadA (i := 0) (d := some 116) (cells := b3C ((hb3 T.b P))) rfl (by rfl) rfl rfl (HM114.out.cells0 8 rfl) Try.underlying28 rfl (by kernel_rfl) rfl ?_
            simp only [Act.put, List.setIfInBounds_toArray, List.set_cons_succ, List.set_cons_zero]
            refine wpS_storeA (i := 1) (L2 := [_, _, _, _, _, _, _, _, _, _]) (cs' := b3C ((hb3 T.b P))) rfl (by rfl) rfl rfl rfl (by kernel_rfl) (b3C_one _) HM114.out 9 rfl rfl (by kernel_rfl) (by kernel_rfl) covS_nil rfl ?_
            rintro W119 hm118 -
            have HM120 := Lib.hid hm118
            clear hm118
            refine wpS_this [2] rfl (by kernel_rfl) (by simp only [pickL, nthL, List.cons_append, List.nil_append]; rfl) ?_
            repeat (go_big_quiet_step (fail))
            refine wpQuiet_nil ?_
            refine wpS_nil ?_
            refine then_normal ?_
            refine wp_ret ?_
            refine then_ret (block_ret (then_ret (then_ret (block_ret (then_ret ?_)))))
            refine ret_cell_tmp rfl HM120.out 0 rfl rfl Try.underlying28 rfl (by kernel_rfl) rfl rfl ?_
            rw [hno.out]
            exact doesU_ret (post := fun u => [playT u (none), R]) (Mem.addEx _ (Mem.addPr rfl (Mem.only (M := [_]) HM120.out [10] rfl))) rfl
          · have hs0 : Hid ((actT tx T s).2 = 0) := Lib.hid (by rw [hx.out])
            refine wp_region_N [(0, 1), (1, 1)] (by kernel_rfl) ?_
            refine wpS_this [0, 1] rfl (by kernel_rfl) (by simp only [pickL, nthL, List.cons_append, List.nil_append]; rfl) ?_
            repeat (go_big_quiet_step (fail))
            refine wpQuiet_nil ?_
            refine wpS_nil ?_
            refine then_normal ?_
            refine wp_cond_false rfl ?_
            refine wp_skip ?_
            refine then_normal ?_
            refine wp_seq ?_
            refine wp_seq ?_
            refine wp_region_N [(0, 1), (1, 1)] (by kernel_rfl) ?_
            refine wpS_this [0, 1] rfl (by kernel_rfl) (by simp only [pickL, nthL, List.cons_append, List.nil_append]; rfl) ?_
            repeat (go_big_quiet_step (fail))
            refine wpQuiet_nil ?_
            refine wpS_nil ?_
            refine then_normal ?_
            refine wp_cond_false rfl ?_
            refine wp_skip ?_
            refine then_normal ?_
            refine wp_region_N [(0, 1), (1, 1), (2, 1), (3, 3)] (by kernel_rfl) ?_
            refine wpS_this [0] rfl (by kernel_rfl) (by simp only [pickL, nthL, List.cons_append, List.nil_append]; rfl) ?_
            repeat (go_big_quiet_step (fail))
            refine wpQuiet_nil ?_
            refine wpS_loadA (i := 1) (d := some 118) (cells := bgC (x.k) (.slice px x.v.length cx)) rfl (by rfl) rfl rfl (HM114.out.part 0 rfl (bgC_all)) Try.underlying27 rfl (by kernel_rfl) rfl ?_
            simp only [Act.put, List.setIfInBounds_toArray, List.set_cons_succ, List.set_cons_zero]
            refine wpS_read (i := 2) (d := some 119) rfl (by rfl) (run_addrB3 hw3 rfl rfl rfl) rfl ?_
            simp only [Act.put, List.setIfInBounds_toArray, List.set_cons_succ, List.set_cons_zero]
            refine wpS_storeA (i := 3) (L2 := [_, _, _, _, _, _, _, _, _, _]) (cs' := b3C (upd (hb3 T.b P) wi ⟨x.k, px, x.v.length, cx⟩)) rfl (by rfl) rfl rfl rfl (by kernel_rfl) (bgC_one _ _ _) HM114.out 8 rfl rfl (Nat.ble_eq_true_of_le (by rw [b3C_len]; show _ + 9 ≤ _; omega)) (b3C_set hw3 ⟨x.k, px, x.v.length, cx⟩) covS_nil rfl ?_
            rintro W122 hm121 -
            have HM123 := Lib.hid hm121
            clear hm121
            refine wpS_nil ?_
            refine block_normal ?_
            refine then_normal ?_
            refine wp_region_N [(0, 1), (1, 1)] (by kernel_rfl) ?_
            refine wpS_this [0, 1] rfl (by kernel_rfl) (by simp only [pickL, nthL, List.cons_append, List.nil_append]; rfl) ?_
            repeat (go_big_quiet_step (fail))
            refine wpQuiet_nil ?_
            refine wpS_nil ?_
            refine then_normal ?_
            refine ⟨by kernel_rfl, ?_⟩
            refine ⟨l.length - (kk + 1), by omega, kk + 1, stepT tx T s, upd P wi (px, cx), rfl, rfl, hkk1, by omega, runT_step hrun.out hsl.out hs0.out, ?_⟩
            rw [hsb.out, hsn.out, ← hb3_upd]
            exact Mem.setRow hw3 (Mem.only (M := [_, _, _, _, _, _, _, _]) HM123.out [2, 2, 2, 2, 3, 0, 3, 3] rfl)
  · have hge : Hid (l.length ≤ kk) := Lib.hid (by have : ¬ (kk : Int) < ((l.length : Nat) : Int) := (by simpa using h14); omega)
    clear h14
    have hyes : Hid (runT tx (l.map rwN) (min 40 l.length) = some T) := Lib.hid (by rw [show min 40 l.length = kk by have := hge.out; omega]; exact hrun.out)
    refine wp_exit ?_
    refine then_exit (then_exit (block_exit ?_))
    refine then_normal ?_
    refine wp_seq ?_
    refine wp_region_N [(0, 1), (1, 3), (2, 1)] (by kernel_rfl) ?_
    refine wpS_loadA (i := 0) (d := some 121) (cells := b3C ((hb3 T.b P))) rfl (by rfl) rfl rfl (HM13.out.cells0 4 rfl) Try.underlying28 rfl (by kernel_rfl) rfl ?_
    simp only [Act.put, List.setIfInBounds_toArray, List.set_cons_succ, List.set_cons_zero]
    refine wpS_storeA (i := 1) (L2 := [_, _, _, _, _, _]) (cs' := b3C ((hb3 T.b P))) rfl (by rfl) rfl rfl rfl (by kernel_rfl) (b3C_one _) HM13.out 5 rfl rfl (by kernel_rfl) (by kernel_rfl) covS_nil rfl ?_
    rintro W125 hm124 -
    have HM126 := Lib.hid hm124
    clear hm124
    refine wpS_this [2] rfl (by kernel_rfl) (by simp only [pickL, nthL, List.cons_append, List.nil_append]; rfl) ?_
    repeat (go_big_quiet_step (fail))
    refine wpQuiet_nil ?_
    refine wpS_nil ?_
    refine then_normal ?_
    refine wp_ret ?_
    refine ret_cell_tmp rfl HM126.out 0 rfl rfl Try.underlying28 rfl (by kernel_rfl) rfl rfl ?_
    rw [hyes.out]
    exact doesU_ret (post := fun u => [playT u (some T), R]) (Mem.addEx P (Mem.addPr rfl (Mem.only (M := [_, _, _, _]) HM126.out [1, 1, 1, 3] rfl))) rfl

end Go.Proofs.Ytneeidedadlioaa
