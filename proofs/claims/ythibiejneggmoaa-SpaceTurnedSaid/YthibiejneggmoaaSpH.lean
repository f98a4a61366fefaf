/- Space: SpaceTurned. -/
import Derived.Test.YthibiejneggmoaaSpG
namespace Go.Proofs.Ythibiejneggmoaa
open Go Go.RowKit Go.BigFrame

theorem oldSrc {W0 : World} {v : Value} {xs : List Int} (hv : SrcE elemI W0 v xs) : Reads elemI (oldT W0) v xs := fun _ _ h => OldA.src h hv
theorem textB_turn {T : List Int} {k : Nat} (hT : T.length = 16) (hk : k < 16) : (textB (whoL T) 16).extract k (textB (whoL T) 16).size ++ (textB (whoL T) 16).extract 0 k = textB (whoL (turnL T k)) 16 := by
  have e : textB (whoL (turnL T k)) 16 = textB (turnO (whoL T) k) 16 := textB_congr fun p hp => whoL_turn hT hk hp
  rw [e]
  unfold textB
  rw [ByteArray.extract_mk, ByteArray.extract_mk]
  apply ByteArray.ext
  rw [ByteArray.data_append]
  show (List.toArray _) ++ (List.toArray _) = List.toArray _
  rw [List.append_toArray]
  congr 1
  have hsz : (ByteArray.mk ((List.range 16).map fun p => chU (whoL T p)).toArray).size = 16 := textB_size (whoL T) 16
  rw [hsz]
  apply List.ext_getElem?
  intro p
  have hl : ((List.range 16).map fun p => chU (whoL T p)).length = 16 := by simp
  by_cases hp : p < 16
  · rw [List.getElem?_append, List.length_take, List.length_drop, hl]
    rw [List.getElem?_map, List.getElem?_range hp]
    split
    · rw [List.getElem?_take, if_pos (by omega), List.getElem?_drop, List.getElem?_map, List.getElem?_range (by omega)]
      show some (chU (whoL T (k + p))) = some (chU (whoL T ((p + k) % 16)))
      rw [show (p + k) % 16 = k + p by omega]
    · rw [List.getElem?_take, if_pos (by omega), List.drop_zero, List.getElem?_map, List.getElem?_range (by omega)]
      show some (chU (whoL T (p - min (16 - k) (16 - k)))) = some (chU (whoL T ((p + k) % 16)))
      rw [show (p + k) % 16 = p - min (16 - k) (16 - k) by omega]
  · rw [List.getElem?_eq_none (by rw [List.length_append, List.length_take, List.length_take, List.length_drop, List.length_drop, hl]; omega), List.getElem?_eq_none (by simp; omega)]
set_option maxHeartbeats 4000000 in
set_option maxRecDepth 100000 in
theorem turned_d (W0 : World) (vT vM : Value) (T M : List Int) (hT : SrcE elemI W0 vT T) (hM : RowAt elemI W0 vM M) (turn node : Int) : Does Try.prog 4 #[vT, vM, .int .i64 turn, .int .i64 node] [oldT W0] (.bool true) [oldT W0] := by
  intro w H hp
  have HM0 := Lib.hid (mem_refl hp)
  clear hp
  have hcap0 := hT
  obtain ⟨pT, cT, rfl⟩ := row_form hT
  have hcap : Hid (T.length ≤ cT) := Lib.hid (by obtain ⟨_, _, _, e1, e2, _⟩ := hcap0; simp only [Value.slice.injEq] at e1; omega)
  clear hcap0
  obtain ⟨pM, cM, rfl⟩ := rd_form hM
  go_enter Try.func4, Try.ntmps4
  refine wp_seq ?_
  refine wp_region_N [(0, 1)] (by kernel_rfl) ?_
  refine wpS_this [0] rfl (by kernel_rfl) (by simp only [pickL, nthL, List.cons_append, List.nil_append]; rfl) ?_
  repeat (go_big_quiet_step (fail))
  refine wpQuiet_nil ?_
  refine wpS_nil ?_
  refine then_normal ?_
  refine wp_seq ?_
  refine wp_seq ?_
  rcases (show T.length ≠ 16 ∨ (T.length = 16 ∧ 100 < M.length) ∨ (T.length = 16 ∧ ¬ 100 < M.length) from by omega) with h1 | ⟨h1, h2⟩ | ⟨h1, h2⟩
  · have g1 : ((T.length : Int) != 16) = true := bne_iff_ne.2 (by omega)
    have g1' : (T.length != 16) = true := bne_iff_ne.2 h1
    replace h1 := Lib.hid h1
    refine wp_region_N [(0, 1), (1, 1), (2, 1), (3, 1), (4, 1), (5, 1), (6, 1), (7, 1)] (by kernel_rfl) ?_
    refine wpS_this [0, 1, 2, 3, 4, 5, 6, 7] rfl (by kernel_rfl) (by simp only [pickL, nthL, List.cons_append, List.nil_append]; rfl) ?_
    repeat (go_big_quiet_step (fail))
    refine wpQuiet_nil ?_
    refine wpS_nil ?_
    refine then_normal ?_
    refine wp_cond_true rfl ?_
    refine wp_seq ?_
    refine wp_region_N [(0, 3), (1, 1)] (by kernel_rfl) ?_
    refine wpS_does0 (i := 0) (d := some 22) (rem := [_]) (out := [_]) rfl (by rfl) rfl Try.call7 (sawake_d)  HM0.out [] rfl covS_nil rfl rfl ?_
    rintro W2 hm1 -
    have HM3 := Lib.hid hm1
    clear hm1
    simp only [Act.put, List.setIfInBounds_toArray, List.set_cons_succ, List.set_cons_zero]
    refine wpS_this [1] rfl (by kernel_rfl) (by simp only [pickL, nthL, List.cons_append, List.nil_append]; rfl) ?_
    repeat (go_big_quiet_step (fail))
    refine wpQuiet_nil ?_
    refine wpS_nil ?_
    refine then_normal ?_
    refine wp_ret ?_
    refine then_ret ?_
    refine bodyPost_ret (results_tmp rfl _ _ _) rfl ?_
    exact does_ret (Mem.only (M := [_]) HM3.out [0] rfl) rfl rfl
  · have g1 : ((T.length : Int) != 16) = false := by rw [h1]; rfl
    have g1' : (T.length != 16) = false := by rw [h1]; rfl
    have g2 : decide ((100 : Int) < (M.length : Int)) = true := decide_eq_true (by omega)
    have g2' := decide_eq_true h2
    replace h1 := Lib.hid h1
    replace h2 := Lib.hid h2
    refine wp_region_N [(0, 1), (1, 1), (2, 1), (3, 1), (4, 1), (5, 1), (6, 1), (7, 1)] (by kernel_rfl) ?_
    refine wpS_this [0, 1, 2, 3, 4, 5, 6, 7] rfl (by kernel_rfl) (by simp only [pickL, nthL, List.cons_append, List.nil_append]; rfl) ?_
    repeat (go_big_quiet_step (fail))
    refine wpQuiet_nil ?_
    refine wpS_nil ?_
    refine then_normal ?_
    refine wp_cond_true rfl ?_
    refine wp_seq ?_
    refine wp_region_N [(0, 3), (1, 1)] (by kernel_rfl) ?_
    refine wpS_does0 (i := 0) (d := some 22) (rem := [_]) (out := [_]) rfl (by rfl) rfl Try.call7 (sawake_d)  HM0.out [] rfl covS_nil rfl rfl ?_
    rintro W5 hm4 -
    have HM6 := Lib.hid hm4
    clear hm4
    simp only [Act.put, List.setIfInBounds_toArray, List.set_cons_succ, List.set_cons_zero]
    refine wpS_this [1] rfl (by kernel_rfl) (by simp only [pickL, nthL, List.cons_append, List.nil_append]; rfl) ?_
    repeat (go_big_quiet_step (fail))
    refine wpQuiet_nil ?_
    refine wpS_nil ?_
    refine then_normal ?_
    refine wp_ret ?_
    refine then_ret ?_
    refine bodyPost_ret (results_tmp rfl _ _ _) rfl ?_
    exact does_ret (Mem.only (M := [_]) HM6.out [0] rfl) rfl rfl
  · have g1 : ((T.length : Int) != 16) = false := by rw [h1]; rfl
    have g1' : (T.length != 16) = false := by rw [h1]; rfl
    have g2 : decide ((100 : Int) < (M.length : Int)) = false := decide_eq_false (by omega)
    have g2' := decide_eq_false h2
    have hM1 : Hid (M.length ≤ 1000) := Lib.hid (by omega)
    have h16 := Lib.hid h1
    clear h1
    refine wp_region_N [(0, 1), (1, 1), (2, 1), (3, 1), (4, 1), (5, 1), (6, 1), (7, 1)] (by kernel_rfl) ?_
    refine wpS_this [0, 1, 2, 3, 4, 5, 6, 7] rfl (by kernel_rfl) (by simp only [pickL, nthL, List.cons_append, List.nil_append]; rfl) ?_
    repeat (go_big_quiet_step (fail))
    refine wpQuiet_nil ?_
    refine wpS_nil ?_
    refine then_normal ?_
    refine wp_cond_false rfl ?_
    refine wp_skip ?_
    refine then_normal ?_
    refine wp_seq ?_
    obtain ⟨t, ht'⟩ : ∃ z, mod16 turn = z := ⟨_, rfl⟩
    have ht16 : t < 16 := by rw [← ht']; exact mod16_lt _
    have hae := Lib.hid (mod16_eq ht')
    clear ht'
    refine wp_region_N [(0, 1), (1, 1), (2, 1), (3, 1), (4, 1)] (by kernel_rfl) ?_
    refine wpS_this [0, 1, 2] rfl (by kernel_rfl) (by simp only [pickL, nthL, List.cons_append, List.nil_append]; rfl) ?_
    repeat (go_big_quiet_step (fail))
    refine wpQuiet_nil ?_
    refine wpS_this [3] rfl (by kernel_rfl) (by simp only [pickL, nthL, List.cons_append, List.nil_append]; rfl) ?_
    repeat (go_big_quiet_step (fail))
    refine wpQuiet_nil ?_
    rw [hae.out]
    refine wpS_this [4] rfl (by kernel_rfl) (by simp only [pickL, nthL, List.cons_append, List.nil_append]; rfl) ?_
    repeat (go_big_quiet_step (fail))
    refine wpQuiet_nil ?_
    refine wpS_nil ?_
    refine then_normal ?_
    refine wp_seq ?_
    refine wp_region_M (fun k => k ∈ ([] : List Nat)) [(1, 0), (2, 0), (3, 0), (5, 0), (6, 0), (7, 0), (0, 3), (4, 3), (8, 3), (9, 1)] (by kernel_rfl) (by kernel_rfl) HM0.out ?_
    intro W7 hm8
    have HM9 := Lib.hid hm8
    clear hm8
    refine wpS_all [1, 2] rfl (by kernel_rfl) (by simp only [pickL, nthL, List.cons_append, List.nil_append]; rfl) ?_
    repeat (go_big_quiet_step (fail))
    refine wpQuiet_nil ?_
    refine wpS_read0 (i := 3) (d := some 30) rfl (by rfl) (fun _ => run_tailI (show t ≤ T.length by have := h16.out; omega) hcap.out rfl rfl rfl) rfl ?_
    simp only [Act.put, List.setIfInBounds_toArray, List.set_cons_succ, List.set_cons_zero]
    refine wpS_all [5, 6] rfl (by kernel_rfl) (by simp only [pickL, nthL, List.cons_append, List.nil_append]; rfl) ?_
    repeat (go_big_quiet_step (fail))
    refine wpQuiet_nil ?_
    refine wpS_read0 (i := 7) (d := some 34) rfl (by rfl) (fun _ => run_headI (show t ≤ cT by have := h16.out; have := hcap.out; omega) rfl rfl rfl) rfl ?_
    simp only [Act.put, List.setIfInBounds_toArray, List.set_cons_succ, List.set_cons_zero]
    refine wpS_buildN elemI (i := 0) (dd := 27) (n := 0) (xs := []) (cs := #[]) rfl (by rfl) (fun _ => by kernel_rfl) rfl rfl HM9.out covS_nil rfl ?_
    rintro b12 W13 hm14 -
    have HM15 := Lib.hid hm14
    clear hm14
    simp only [Act.put, List.setIfInBounds_toArray, List.set_cons_succ, List.set_cons_zero]
    refine wpS_append (E := elemI) (i := 4) (d := some 31) (L2 := [_]) rfl (by rfl) rfl HM15.out 0 rfl rfl (SrcE.drop (HM15.out.src 1 rfl (oldSrc hT)) (show t ≤ T.length by have := h16.out; omega)) rfl (by show (0 + (T.drop t).length) * 8 ≤ _; rw [List.length_drop]; have := h16.out; omega) rfl covS_nil rfl ?_
    rintro v18 W19 hm20 -
    rw [List.nil_append] at hm20
    obtain ⟨ap, ac, rfl⟩ := row_form (Mem.src hm20 0 rfl rowT_reads)
    have HM21 := Lib.hid hm20
    clear hm20
    simp only [Act.put, List.setIfInBounds_toArray, List.set_cons_succ, List.set_cons_zero]
    refine wpS_append (E := elemI) (i := 8) (d := some 35) (L2 := [_]) rfl (by rfl) rfl HM21.out 0 rfl rfl (SrcE.take (HM21.out.src 1 rfl (oldSrc hT)) (show t ≤ T.length by have := h16.out; omega)) rfl (by show ((T.drop t).length + (T.take t).length) * 8 ≤ _; rw [List.length_drop, List.length_take]; have := h16.out; omega) rfl covS_nil rfl ?_
    rintro v24 W25 hm26 -
    obtain ⟨v24p, v24c, rfl⟩ := row_form (Mem.src hm26 0 rfl rowT_reads)
    have HM27 := Lib.hid hm26
    clear hm26
    simp only [Act.put, List.setIfInBounds_toArray, List.set_cons_succ, List.set_cons_zero]
    refine wpS_this [9] rfl (by kernel_rfl) (by simp only [pickL, nthL, List.cons_append, List.nil_append]; rfl) ?_
    repeat (go_big_quiet_step (fail))
    refine wpQuiet_nil ?_
    refine wpS_nil ?_
    refine then_normal ?_
    refine wp_seq ?_
    refine wp_seq ?_
    obtain ⟨L, hL'⟩ : ∃ l, T.drop t ++ T.take t = l := ⟨_, rfl⟩
    rw [hL'] at HM27 ⊢
    have hLt : Hid (turnL T t = L) := Lib.hid hL'
    clear hL'
    have hL16 : Hid (L.length = 16) := Lib.hid (by rw [← hLt.out, turnL_len (by rw [h16.out]; omega)]; exact h16.out)
    refine wp_region_N [(0, 1)] (by kernel_rfl) ?_
    refine wpS_this [0] rfl (by kernel_rfl) (by simp only [pickL, nthL, List.cons_append, List.nil_append]; rfl) ?_
    repeat (go_big_quiet_step (fail))
    refine wpQuiet_nil ?_
    refine wpS_nil ?_
    refine then_normal ?_
    refine wp_block ?_
    refine wp_loop_F [8, 11, 36, 37, 38, 39, 40, 41, 42, 43, 44, 45, 46, 47, 48, 49] (fun n vs W' => ∃ k : Nat, n = 16 - k ∧ vs 36 = .int .i64 (k : Int) ∧ k ≤ 16 ∧ Mem [rowT elemI (.slice v24p L.length v24c) L, oldT W0] H w W') (n0 := 16) ?_ ?_
    · exact ⟨0, rfl, rfl, Nat.zero_le _, (Mem.only (M := [_, _]) HM27.out [0, 0] rfl)⟩
    rintro n vs W' ⟨k, rfl, e36, hk, hm⟩
    simp only [putAll, List.map_cons, List.map_nil, Act.put, List.setIfInBounds_toArray, List.set_cons_succ, List.set_cons_zero]
    rw [e36]
    clear e36
    have HM28 := Lib.hid hm
    clear hm
    refine wp_seq ?_
    refine wp_region_N [(0, 1)] (by kernel_rfl) ?_
    refine wpS_this [0] rfl (by kernel_rfl) (by simp only [pickL, nthL, List.cons_append, List.nil_append]; rfl) ?_
    repeat (go_big_quiet_step (fail))
    refine wpQuiet_nil ?_
    refine wpS_nil ?_
    refine then_normal ?_
    refine wp_seq ?_
    refine wp_cond_split rfl (fun h29 => ?_) (fun h29 => ?_)
    · have hk1 : k + 1 ≤ 16 := by have : (k : Int) < 16 := (by simpa using h29); omega
      clear h29
      obtain ⟨j, hj'⟩ := nat_letter ((k + t) % 16)
      have hkt : Hid (((k : Int) + (t : Int)) % 16 = (j : Int)) := Lib.hid (by omega)
      have hnt0 : nextI L (k : Int) = nextI T (j : Int) := by rw [← hLt.out, nextI_turn h16.out ht16 hk1, hj']
      obtain ⟨z, hz'⟩ := int_letter (nextI T (j : Int))
      rw [hz'] at hnt0
      have hnt := Lib.hid hnt0
      clear hnt0 hj'
      have hz := Lib.hid hz'
      clear hz'
      have gz : (z != z) = false := bne_self_eq_false _
      refine wp_skip ?_
      refine then_normal ?_
      refine wp_seq ?_
      refine wp_block ?_
      refine wp_seq ?_
      refine wp_region_N [(0, 1), (1, 1)] (by kernel_rfl) ?_
      refine wpS_this [0, 1] rfl (by kernel_rfl) (by simp only [pickL, nthL, List.cons_append, List.nil_append]; rfl) ?_
      repeat (go_big_quiet_step (fail))
      refine wpQuiet_nil ?_
      refine wpS_nil ?_
      refine then_normal ?_
      refine wp_seq ?_
      refine wp_region_N [(0, 1), (1, 1), (2, 3), (3, 1), (4, 1), (5, 1), (6, 1), (7, 1), (8, 3), (9, 1)] (by kernel_rfl) ?_
      refine wpS_this [0, 1] rfl (by kernel_rfl) (by simp only [pickL, nthL, List.cons_append, List.nil_append]; rfl) ?_
      repeat (go_big_quiet_step (fail))
      refine wpQuiet_nil ?_
      refine wpS_does2 (i := 2) (d := some 41) (rem := [_]) (out := [_, _]) rfl (by rfl) rfl Try.call8 (spnext_d (rowT elemI _ L) _ L rowOwn (by rw [hL16.out]; decide) (k : Int)) rfl rfl HM28.out [0] rfl covS_nil rfl rfl ?_
      rintro W31 hm30 -
      rw [hnt.out]
      have HM32 := Lib.hid hm30
      clear hm30
      simp only [Act.put, List.setIfInBounds_toArray, List.set_cons_succ, List.set_cons_zero]
      refine wpS_this [3, 4, 5, 6] rfl (by kernel_rfl) (by simp only [pickL, nthL, List.cons_append, List.nil_append]; rfl) ?_
      repeat (go_big_quiet_step (fail))
      refine wpQuiet_nil ?_
      refine wpS_this [7] rfl (by kernel_rfl) (by simp only [pickL, nthL, List.cons_append, List.nil_append]; rfl) ?_
      repeat (go_big_quiet_step (fail))
      refine wpQuiet_nil ?_
      rw [hkt.out]
      refine wpS_does2 (i := 8) (d := some 47) (rem := [_]) (out := [_, _]) rfl (by rfl) rfl Try.call8 (spnext_d (oldT W0) _ T (rowOld hT.1) (by rw [h16.out]; decide) (j : Int)) rfl rfl HM32.out [1] rfl covS_nil rfl rfl ?_
      rintro W34 hm33 -
      rw [hz.out]
      have HM35 := Lib.hid hm33
      clear hm33
      simp only [Act.put, List.setIfInBounds_toArray, List.set_cons_succ, List.set_cons_zero]
      refine wpS_this [9] rfl (by kernel_rfl) (by simp only [pickL, nthL, List.cons_append, List.nil_append]; rfl) ?_
      repeat (go_big_quiet_step (fail))
      refine wpQuiet_nil ?_
      refine wpS_nil ?_
      refine then_normal ?_
      refine wp_cond_false rfl ?_
      refine wp_skip ?_
      refine block_normal ?_
      refine then_normal ?_
      refine wp_region_N [(0, 1), (1, 1)] (by kernel_rfl) ?_
      refine wpS_this [0, 1] rfl (by kernel_rfl) (by simp only [pickL, nthL, List.cons_append, List.nil_append]; rfl) ?_
      repeat (go_big_quiet_step (fail))
      refine wpQuiet_nil ?_
      refine wpS_nil ?_
      refine then_normal ?_
      refine ⟨by kernel_rfl, ?_⟩
      refine ⟨16 - (k + 1), by omega, k + 1, rfl, rfl, hk1, (Mem.only (M := [_, _]) HM35.out [1, 0] rfl)⟩
    · clear h29
      refine wp_exit ?_
      refine then_exit (then_exit (block_exit ?_))
      refine then_normal ?_
      refine wp_seq ?_
      obtain ⟨sa, hsa'⟩ : ∃ z, textB (whoL T) 16 = z := ⟨_, rfl⟩
      obtain ⟨sb, hsb'⟩ : ∃ z, textB (whoL L) 16 = z := ⟨_, rfl⟩
      have hza : sa.size = 16 := by rw [← hsa']; exact textB_size _ _
      have hzb : sb.size = 16 := by rw [← hsb']; exact textB_size _ _
      have gza : ((sa.size : Int) == 16) = true := by rw [hza]; rfl
      have gzb : ((sb.size : Int) == 16) = true := by rw [hzb]; rfl
      have gza' : (sa.size == 16) = true := by rw [hza]; rfl
      have gzb' : (sb.size == 16) = true := by rw [hzb]; rfl
      obtain ⟨sc, hsc'⟩ : ∃ z, sa.extract t sa.size = z := ⟨_, rfl⟩
      obtain ⟨sd, hsd'⟩ : ∃ z, sa.extract 0 t = z := ⟨_, rfl⟩
      have hcd : Hid (sc ++ sd = sb) := Lib.hid (by rw [← hsc', ← hsd', ← hsb', ← hsa', ← hLt.out]; exact textB_turn h16.out ht16)
      have hszt : Hid (t ≤ sa.size) := Lib.hid (by omega)
      have hsum : Hid (sc.size + sd.size ≤ 9223372036854775807) := Lib.hid (by rw [← hsc', ← hsd']; simp only [ByteArray.size_extract]; omega)
      have hsa := Lib.hid hsa'
      clear hsa'
      have hsb := Lib.hid hsb'
      clear hsb'
      have hsc := Lib.hid hsc'
      clear hsc'
      have hsd := Lib.hid hsd'
      clear hsd'
      replace hza := Lib.hid hza
      replace hzb := Lib.hid hzb
      have hlt : Hid (leastI L node = leastI T node) := Lib.hid (by rw [← hLt.out]; exact leastI_turn h16.out ht16 _)
      have hut : Hid (unevI L M = unevI T M) := Lib.hid (by rw [← hLt.out]; exact unevI_turn h16.out ht16 _)
      obtain ⟨lz, hlz'⟩ := int_letter (leastI T node)
      rw [hlz'] at hlt
      have hlz := Lib.hid hlz'
      clear hlz'
      obtain ⟨uz, huz'⟩ := int_letter (unevI T M)
      rw [huz'] at hut
      have huz := Lib.hid huz'
      clear huz'
      have glz : (lz == lz) = true := beq_self_eq_true _
      have guz : (uz == uz) = true := beq_self_eq_true _
      refine wp_region_N [(0, 1), (1, 3), (2, 1), (3, 3), (4, 1), (5, 1)] (by kernel_rfl) ?_
      refine wpS_this [0] rfl (by kernel_rfl) (by simp only [pickL, nthL, List.cons_append, List.nil_append]; rfl) ?_
      repeat (go_big_quiet_step (fail))
      refine wpQuiet_nil ?_
      refine wpS_does1 (i := 1) (d := some 51) (rem := [_]) (out := [_, _]) rfl (by rfl) rfl Try.call12 (sptext_d (oldT W0) _ T (rowOld hT.1) (by rw [h16.out]; decide)) rfl HM28.out [1] rfl covS_nil rfl rfl ?_
      rintro W37 hm36 -
      rw [hsa.out]
      have HM38 := Lib.hid hm36
      clear hm36
      simp only [Act.put, List.setIfInBounds_toArray, List.set_cons_succ, List.set_cons_zero]
      refine wpS_this [2] rfl (by kernel_rfl) (by simp only [pickL, nthL, List.cons_append, List.nil_append]; rfl) ?_
      repeat (go_big_quiet_step (fail))
      refine wpQuiet_nil ?_
      refine wpS_does1 (i := 3) (d := some 53) (rem := [_]) (out := [_, _]) rfl (by rfl) rfl Try.call12 (sptext_d (rowT elemI _ L) _ L rowOwn (by rw [hL16.out]; decide)) rfl HM38.out [1] rfl covS_nil rfl rfl ?_
      rintro W40 hm39 -
      rw [hsb.out]
      have HM41 := Lib.hid hm39
      clear hm39
      simp only [Act.put, List.setIfInBounds_toArray, List.set_cons_succ, List.set_cons_zero]
      refine wpS_this [4, 5] rfl (by kernel_rfl) (by simp only [pickL, nthL, List.cons_append, List.nil_append]; rfl) ?_
      repeat (go_big_quiet_step (fail))
      refine wpQuiet_nil ?_
      refine wpS_nil ?_
      refine then_normal ?_
      refine wp_seq ?_
      refine wp_region_M (fun k => k ∈ ([] : List Nat)) [(0, 1), (1, 1), (2, 1), (3, 1), (4, 1), (5, 1), (6, 1), (7, 1), (8, 1), (9, 1), (10, 1), (11, 1), (12, 1), (13, 1), (14, 1), (15, 1), (16, 1), (17, 1), (18, 1), (19, 1), (20, 1), (21, 1), (23, 0), (24, 0), (22, 3), (25, 3), (26, 1), (27, 1), (28, 1), (29, 1), (30, 1), (32, 0), (33, 0), (31, 3), (34, 3), (35, 1), (36, 1), (37, 1), (38, 3), (39, 1), (40, 1)] (by kernel_rfl) (by kernel_rfl) HM41.out ?_
      intro W42 hm43
      have HM44 := Lib.hid hm43
      clear hm43
      refine wpS_this [0, 1, 2, 3, 4, 5, 6, 7, 8, 9, 10, 11] rfl (by kernel_rfl) (by simp only [pickL, nthL, List.cons_append, List.nil_append]; rfl) ?_
      repeat (go_big_quiet_step (fail))
      refine wpQuiet_nil ?_
      refine wpS_read (i := 12) (d := some 66) rfl (by rfl) (run_cutL (t := sc) hszt.out hsc.out rfl rfl rfl) rfl ?_
      simp only [Act.put, List.setIfInBounds_toArray, List.set_cons_succ, List.set_cons_zero]
      refine wpS_this [13, 14] rfl (by kernel_rfl) (by simp only [pickL, nthL, List.cons_append, List.nil_append]; rfl) ?_
      repeat (go_big_quiet_step (fail))
      refine wpQuiet_nil ?_
      refine wpS_read (i := 15) (d := some 69) rfl (by rfl) (run_cutH (t := sd) hszt.out hsd.out rfl rfl rfl) rfl ?_
      simp only [Act.put, List.setIfInBounds_toArray, List.set_cons_succ, List.set_cons_zero]
      refine wpS_read (i := 16) (d := some 70) rfl (by rfl) (run_addS (u := sb) hsum.out hcd.out rfl rfl rfl) rfl ?_
      simp only [Act.put, List.setIfInBounds_toArray, List.set_cons_succ, List.set_cons_zero]
      refine wpS_read (i := 17) (d := some 71) rfl (by rfl) (run_eqS (b := true) (decide_eq_true rfl) rfl rfl rfl) rfl ?_
      simp only [Act.put, List.setIfInBounds_toArray, List.set_cons_succ, List.set_cons_zero]
      refine wpS_this [18, 19, 20, 21] rfl (by kernel_rfl) (by simp only [pickL, nthL, List.cons_append, List.nil_append]; rfl) ?_
      repeat (go_big_quiet_step (fail))
      refine wpQuiet_nil ?_
      refine wpS_all [23, 24] rfl (by kernel_rfl) (by simp only [pickL, nthL, List.cons_append, List.nil_append]; rfl) ?_
      repeat (go_big_quiet_step (fail))
      refine wpQuiet_nil ?_
      refine wpS_does2 (i := 22) (d := some 76) (rem := [_]) (out := [_, _]) rfl (by rfl) rfl Try.call11 (spleast_d (rowT elemI _ L) _ L rowOwn (by rw [hL16.out]; decide) node) rfl rfl HM44.out [0] rfl covS_nil rfl rfl ?_
      rintro W46 hm45 -
      rw [hlt.out]
      have HM47 := Lib.hid hm45
      clear hm45
      simp only [Act.put, List.setIfInBounds_toArray, List.set_cons_succ, List.set_cons_zero]
      refine wpS_does2 (i := 25) (d := some 79) (rem := [_]) (out := [_, _]) rfl (by rfl) rfl Try.call11 (spleast_d (oldT W0) _ T (rowOld hT.1) (by rw [h16.out]; decide) node) rfl rfl HM47.out [1] rfl covS_nil rfl rfl ?_
      rintro W49 hm48 -
      rw [hlz.out]
      have HM50 := Lib.hid hm48
      clear hm48
      simp only [Act.put, List.setIfInBounds_toArray, List.set_cons_succ, List.set_cons_zero]
      refine wpS_this [26, 27, 28, 29, 30] rfl (by kernel_rfl) (by simp only [pickL, nthL, List.cons_append, List.nil_append]; rfl) ?_
      repeat (go_big_quiet_step (fail))
      refine wpQuiet_nil ?_
      refine wpS_all [32, 33] rfl (by kernel_rfl) (by simp only [pickL, nthL, List.cons_append, List.nil_append]; rfl) ?_
      repeat (go_big_quiet_step (fail))
      refine wpQuiet_nil ?_
      refine wpS_does2 (i := 31) (d := some 85) (rem := []) (out := [_, _]) rfl (by rfl) rfl Try.call13 (Does.ofList (spunev_d (listT [_, _]) _ _ L M (rowL 0 rfl rowOwn) (by rw [hL16.out]; decide) (rowL 1 rfl (rowOld hM)) hM1.out)) rfl rfl HM50.out [1, 0] rfl covS_nil rfl rfl ?_
      rintro W52 hm51 -
      rw [hut.out]
      have HM53 := Lib.hid hm51
      clear hm51
      simp only [Act.put, List.setIfInBounds_toArray, List.set_cons_succ, List.set_cons_zero]
      refine wpS_does2 (i := 34) (d := some 88) (rem := [_]) (out := [_, _]) rfl (by rfl) rfl Try.call13 (spunev_d (oldT W0) _ _ T M (rowOld hT.1) (by rw [h16.out]; decide) (rowOld hM) hM1.out) rfl rfl HM53.out [1] rfl covS_nil rfl rfl ?_
      rintro W55 hm54 -
      rw [huz.out]
      have HM56 := Lib.hid hm54
      clear hm54
      simp only [Act.put, List.setIfInBounds_toArray, List.set_cons_succ, List.set_cons_zero]
      refine wpS_this [35, 36, 37] rfl (by kernel_rfl) (by simp only [pickL, nthL, List.cons_append, List.nil_append]; rfl) ?_
      repeat (go_big_quiet_step (fail))
      refine wpQuiet_nil ?_
      refine wpS_does0 (i := 38) (d := some 92) (rem := [_, _]) (out := [_, _]) rfl (by rfl) rfl Try.call7 (sawake_d)  HM56.out [] rfl covS_nil rfl rfl ?_
      rintro W58 hm57 -
      have HM59 := Lib.hid hm57
      clear hm57
      simp only [Act.put, List.setIfInBounds_toArray, List.set_cons_succ, List.set_cons_zero]
      refine wpS_this [39, 40] rfl (by kernel_rfl) (by simp only [pickL, nthL, List.cons_append, List.nil_append]; rfl) ?_
      repeat (go_big_quiet_step (fail))
      refine wpQuiet_nil ?_
      refine wpS_nil ?_
      refine then_normal ?_
      refine wp_ret ?_
      refine bodyPost_ret (results_tmp rfl _ _ _) rfl ?_
      exact does_ret (Mem.only (M := [_]) HM59.out [0] rfl) rfl rfl

end Go.Proofs.Ythibiejneggmoaa
