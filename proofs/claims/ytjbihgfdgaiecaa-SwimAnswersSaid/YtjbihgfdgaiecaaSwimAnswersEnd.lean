/- SwimAnswers for every input: whatever the arguments, the law answers true, and nothing that was there has turned. -/
import Derived.Test.YtjbihgfdgaiecaaPI
import Derived.Test.YtjbihgfdgaiecaaChecked
import Derived.Test.YtjbihgfdgaiecaaRows
namespace Go.Proofs.Ytjbihgfdgaiecaa
open Go Go.RowKit Go.BigFrame

theorem hearM_nil (s : DS) : heardM s [] = s := rfl
theorem new_left (self inc : Int) : (newD self inc).left = false := rfl
theorem from_left {s : DS} (h : s.left = false) (frm : Int) : (fromD s frm).left = false := (up_fromD s frm).left.trans h
theorem from_self {s : DS} (frm : Int) : (fromD s frm).self = s.self := (up_fromD s frm).self
theorem kd_cases {k : Nat} {y : Int} (h : ([1, 2, 3] : List Int)[k]? = some y) : y = 1 ∨ y = 2 ∨ y = 3 := by
  match k, h with
  | 0, h => simp at h; omega
  | 1, h => simp at h; omega
  | 2, h => simp at h; omega
  | k + 3, h => simp at h
theorem hearD_asked (s : DS) (c : Cl) : (hearD s c).1.asked = s.asked := by
  unfold hearD
  split
  · split
    · rfl
    · split <;> rfl
  · split <;> rfl
theorem from_asked {s : DS} (frm : Int) : (fromD s frm).asked = s.asked := by
  unfold fromD
  split
  · rfl
  · exact hearD_asked _ _
theorem lok_post {s : DS} (h : LOk s) (kind dst seq fo ab : Int) : LOk (postD s kind dst seq fo ab).1 := by
  obtain ⟨Q, hQ⟩ := postD_rest s kind dst seq fo ab
  rw [hQ]
  exact ⟨h.self, h.inc, h.now, h.seq, h.asked⟩
theorem lok_hand {s : DS} (h : LOk s) (m : InM) : LOk (handL s m).1 := by
  unfold handL
  split
  · exact lok_post h _ _ _ _ _
  · split
    · unfold ackD
      split
      · split
        · exact ⟨h.self, h.inc, h.now, h.seq, by dsimp only; omega⟩
        · exact h
      · split
        · exact lok_post h _ _ _ _ _
        · exact h
    · split
      · unfold pingReqD
        split
        · exact lok_post h _ _ _ _ _
        · exact h
      · exact h
theorem lok_handle {s : DS} {m : InM} {l : List Cl} (h : LOk s) : LOk (handleD s (m.mm l)).1 := by
  by_cases h0 : m.dst = s.self
  · cases h1 : nodeB m.frm with
    | false =>
      have : handleD s (m.mm l) = (s, []) := by unfold handleD InM.mm; dsimp only; rw [if_pos (.inr (.inl h1))]
      rw [this]
      exact h
    | true =>
      by_cases h2 : m.frm = s.self
      · have : handleD s (m.mm l) = (s, []) := by unfold handleD InM.mm; dsimp only; rw [if_pos (.inr (.inr h2))]
        rw [this]
        exact h
      · rw [handleD_pass h0 h1 h2]
        exact lok_hand (lok_fromD (lok_heardM h l) m.frm) m
  · have : handleD s (m.mm l) = (s, []) := by unfold handleD InM.mm; dsimp only; rw [if_pos (.inl h0)]
    rw [this]
    exact h
set_option maxHeartbeats 4000000 in
set_option maxRecDepth 100000 in
theorem answers_d (frm about seq ton kind : Int) : Does Try.prog 6 #[.int .i64 frm, .int .i64 about, .int .i64 seq, .int .i64 ton, .int .i64 kind] [] (.bool true) [] := by
  intro w H hp
  have HM0 := Lib.hid (mem_refl hp)
  clear hp
  have HM0 := Lib.hid (Mem.nilRow elemCl HM0.out)
  go_enter Try.func6, Try.ntmps6
  refine wp_seq ?_
  refine wp_region_N [(0, 1)] (by kernel_rfl) ?_
  refine wpS_this [0] rfl (by kernel_rfl) (by simp only [pickL, nthL, List.cons_append, List.nil_append]; rfl) ?_
  repeat (go_big_quiet_step (fail))
  refine wpQuiet_nil ?_
  refine wpS_nil ?_
  refine then_normal ?_
  refine wp_seq ?_
  obtain ⟨K0, hK0, hm0, hm0'⟩ := mod_small 7 (by decide) (by decide) frm
  obtain ⟨K1, hK1, hm1', -⟩ := mod_small 8 (by decide) (by decide) about
  obtain ⟨K2, hK2, hm2', -⟩ := mod_small 3 (by decide) (by decide) kind
  refine wp_region_N [(0, 1), (1, 1), (2, 1), (3, 1), (4, 1), (5, 1), (6, 1), (7, 1), (8, 1), (9, 1), (10, 1)] (by kernel_rfl) ?_
  refine wpS_this [0, 1, 2, 3, 4, 5, 6, 7, 8, 9, 10] rfl (by kernel_rfl) (by simp only [pickL, nthL, List.cons_append, List.nil_append]; rfl) ?_
  repeat (go_big_quiet_step (fail))
  refine wpQuiet_nil ?_
  refine wpS_nil ?_
  refine then_normal ?_
  refine wp_seq ?_
  rw [hm1']
  obtain ⟨fr, hfr⟩ : ∃ x : Int, (1 + (K0 : Int)) = x := ⟨_, rfl⟩
  obtain ⟨ab, hab⟩ : ∃ x : Int, (K1 : Int) = x := ⟨_, rfl⟩
  rw [hfr, hab]
  have hfr8 : 1 ≤ fr ∧ fr < 8 := by omega
  have hab8 : 0 ≤ ab ∧ ab < 8 := by omega
  clear hfr hab hm0 hm0' hm1' hK0 hK1
  obtain ⟨kd, hkd⟩ : ∃ y, ([1, 2, 3] : List Int)[K2]? = some y := ⟨_, List.getElem?_eq_getElem (show K2 < 3 by omega)⟩
  refine wp_region_N [(0, 3), (1, 1), (2, 1), (3, 1), (4, 1), (5, 1), (6, 1), (7, 1)] (by kernel_rfl) ?_
  refine wpS_buildN elemI (i := 0) (dd := 22) (n := 3) (xs := [1, 2, 3]) (cs := #[.int .i64 1, .int .i64 2, .int .i64 3]) rfl (by rfl) (fun _ => by kernel_rfl) rfl rfl HM0.out covS_nil rfl ?_
  rintro b3 W4 hm5 -
  have HM6 := Lib.hid hm5
  clear hm5
  simp only [Act.put, List.setIfInBounds_toArray, List.set_cons_succ, List.set_cons_zero]
  refine wpS_this [1, 2, 3, 4] rfl (by kernel_rfl) (by simp only [pickL, nthL, List.cons_append, List.nil_append]; rfl) ?_
  repeat (go_big_quiet_step (fail))
  refine wpQuiet_nil ?_
  rw [hm2']
  refine wpS_index (E := elemI) (i := 5) (d := some 27) rfl (by rfl) rfl rfl rfl (rowAt_src (HM6.out.src 0 rfl rowT_reads)) (hkd) rfl ?_
  intro eb7 eo8 hc9
  simp only [Act.put, List.setIfInBounds_toArray, List.set_cons_succ, List.set_cons_zero]
  refine wpS_load1 (i := 6) (d := some 28) (u := .int .i64 kd) rfl (by rfl) rfl rfl (hc9 0 _ rfl) Try.underlying3 rfl rfl ?_
  simp only [Act.put, List.setIfInBounds_toArray, List.set_cons_succ, List.set_cons_zero]
  refine wpS_this [7] rfl (by kernel_rfl) (by simp only [pickL, nthL, List.cons_append, List.nil_append]; rfl) ?_
  repeat (go_big_quiet_step (fail))
  refine wpQuiet_nil ?_
  refine wpS_nil ?_
  refine then_normal ?_
  refine wp_seq ?_
  have h5 : (kd = 1) ∨ (kd = 2 ∧ ab = 0) ∨ (kd = 2 ∧ ¬ ab = 0) ∨ (kd = 3 ∧ ab = 0) ∨ (kd = 3 ∧ ¬ ab = 0) := by rcases kd_cases hkd with h | h | h <;> omega
  clear hkd
  rcases h5 with rfl | ⟨rfl, hz⟩ | ⟨rfl, hz⟩ | ⟨rfl, hz⟩ | ⟨rfl, hz⟩
  · have HP := handleD_pass (s := newD 0 4) (m := (⟨1, fr, 0, seq, ab, ab, msgMid, none, 0, 0⟩ : InM)) (l := []) rfl (by simp [nodeB]; omega) (show ¬ fr = 0 by omega)
    have HX : Hid ((handleD (newD 0 4) ((⟨1, fr, 0, seq, ab, ab, msgMid, none, 0, 0⟩ : InM).mm [])).2 = [⟨2, 0, fr, seq, ab, 0, claimsTo (fromD (newD 0 4) fr) fr⟩]) := Lib.hid (by rw [HP]; unfold handL; rw [if_pos rfl]; show (postD (fromD (newD 0 4) fr) 2 fr seq ab 0).2 = _; rw [postD_out (from_left (new_left 0 4) fr)]; show [(⟨2, (fromD (newD 0 4) fr).self, fr, seq, ab, 0, claimsTo (fromD (newD 0 4) fr) fr⟩ : MM)] = _; rw [from_self]; rfl)
    clear HP
    refine wp_region_N [(0, 3), (1, 1)] (by kernel_rfl) ?_
    refine wpS_doesU2 (i := 0) (d := some 29) (rem := [_, _]) rfl (by rfl) rfl Try.call21 (new_d 0 4 (by decide) (by decide)) rfl rfl HM6.out [] rfl covS_nil (fun _ => rfl) rfl ?_
    rintro u12 W11 hm10 -
    obtain ⟨bk, hm10e⟩ := Mem.ex hm10
    clear hm10
    obtain ⟨hm10u, hm10⟩ := Mem.pr hm10e
    clear hm10e
    subst hm10u
    have HM13 := Lib.hid hm10
    clear hm10
    simp only [Act.put, List.setIfInBounds_toArray, List.set_cons_succ, List.set_cons_zero]
    refine wpS_this [1] rfl (by kernel_rfl) (by simp only [pickL, nthL, List.cons_append, List.nil_append]; rfl) ?_
    repeat (go_big_quiet_step (fail))
    refine wpQuiet_nil ?_
    refine wpS_nil ?_
    refine then_normal ?_
    refine wp_seq ?_
    refine wp_region_N [(0, 1), (1, 1), (2, 1), (3, 1), (4, 1), (5, 1), (6, 1), (7, 3), (8, 1)] (by kernel_rfl) ?_
    refine wpS_this [0, 1, 2, 3, 4, 5] rfl (by kernel_rfl) (by simp only [pickL, nthL, List.cons_append, List.nil_append]; rfl) ?_
    repeat (go_big_quiet_step (fail))
    refine wpQuiet_nil ?_
    refine wpS_read (i := 6) (d := some 36) (v := .agg (InM.enc ⟨1, fr, 0, seq, ab, ab, msgMid, none, 0, 0⟩).toArray) rfl (by rfl) (by kernel_rfl) rfl ?_
    simp only [Act.put, List.setIfInBounds_toArray, List.set_cons_succ, List.set_cons_zero]
    refine wpS_doesU2 (i := 7) (d := some 37) (rem := [_]) rfl (by rfl) rfl Try.call10 (handle_d bk.d (newD 0 4) bk.pv bk.pq bk.po bk.pc (rowT elemCl (.slice none 0 0) []) (⟨1, fr, 0, seq, ab, ab, msgMid, none, 0, 0⟩ : InM) [] (fun W H h => rowAt_src (rowT_reads W H h)) (by decide) msgMid_len (lok_new (by decide) (by decide))) rfl rfl HM13.out [6, 0, 0, 0, 0, 0] rfl covS_nil (fun _ => rfl) rfl ?_
    rintro u16 W15 hm14 -
    rw [HX.out] at hm14
    obtain ⟨mb, mo, mc, mp, mcap, hm14u, hm14m⟩ := msgs_open1 hm14
    clear hm14
    subst hm14u
    have HM17 := Lib.hid hm14m
    clear hm14m
    simp only [Act.put, List.setIfInBounds_toArray, List.set_cons_succ, List.set_cons_zero]
    refine wpS_this [8] rfl (by kernel_rfl) (by simp only [pickL, nthL, List.cons_append, List.nil_append]; rfl) ?_
    repeat (go_big_quiet_step (fail))
    refine wpQuiet_nil ?_
    refine wpS_nil ?_
    refine then_normal ?_
    refine wp_seq ?_
    refine wp_block ?_
    refine wp_seq ?_
    refine wp_region_N [(0, 1), (1, 1), (2, 1)] (by kernel_rfl) ?_
    refine wpS_this [0, 1, 2] rfl (by kernel_rfl) (by simp only [pickL, nthL, List.cons_append, List.nil_append]; rfl) ?_
    repeat (go_big_quiet_step (fail))
    refine wpQuiet_nil ?_
    refine wpS_nil ?_
    refine then_normal ?_
    refine wp_cond_true rfl ?_
    refine wp_seq ?_
    refine wp_region_N [(0, 1), (1, 1), (2, 1), (3, 1), (4, 1), (5, 1), (6, 1), (7, 1), (8, 1), (9, 1), (10, 1), (11, 1), (12, 1), (13, 1), (14, 1), (15, 1), (16, 1), (17, 1), (18, 1), (19, 1), (20, 1), (21, 1), (22, 1), (23, 1), (24, 1), (25, 1), (26, 1), (27, 1), (28, 1), (29, 1), (30, 1), (31, 1), (32, 1), (33, 1), (34, 1), (35, 3), (36, 1), (37, 1)] (by kernel_rfl) ?_
    have c0 : World.cell? _ ⟨mb, mo, none⟩ = some (.int .i64 2) := row_cell0 HM17.out 0 rfl rfl 0 _ rfl
    have c2 : World.cell? _ ⟨mb, mo + 2, none⟩ = some (.int .i64 fr) := row_cell0 HM17.out 0 rfl rfl 2 _ rfl
    have c3 : World.cell? _ ⟨mb, mo + 3, none⟩ = some (.int .i64 seq) := row_cell0 HM17.out 0 rfl rfl 3 _ rfl
    have c4 : World.cell? _ ⟨mb, mo + 4, none⟩ = some (.int .i64 ab) := row_cell0 HM17.out 0 rfl rfl 4 _ rfl
    refine wpS_this [0, 1, 2, 3, 4, 5, 6, 7, 8, 9, 10, 11, 12, 13, 14, 15, 16, 17, 18, 19, 20, 21, 22, 23, 24, 25, 26, 27, 28, 29, 30, 31, 32, 33, 34] rfl (by kernel_rfl) (by simp only [pickL, nthL, List.cons_append, List.nil_append]; rfl) ?_
    repeat (go_big_quiet_step (fail))
    refine wpQuiet_nil ?_
    refine wpS_does0 (i := 35) (d := some 76) (rem := [_, _, _, _, _, _, _, _, _]) (out := [_, _, _, _, _, _, _, _, _]) rfl (by rfl) rfl Try.call18 (awake_d)  HM17.out [] rfl covS_nil rfl rfl ?_
    rintro W19 hm18 -
    have HM20 := Lib.hid hm18
    clear hm18
    simp only [Act.put, List.setIfInBounds_toArray, List.set_cons_succ, List.set_cons_zero]
    refine wpS_this [36, 37] rfl (by kernel_rfl) (by simp only [pickL, nthL, List.cons_append, List.nil_append]; rfl) ?_
    repeat (go_big_quiet_step (fail))
    refine wpQuiet_nil ?_
    refine wpS_nil ?_
    refine then_normal ?_
    refine wp_ret ?_
    refine block_ret (then_ret ?_)
    refine bodyPost_ret (results_tmp rfl _ _ _) rfl ?_
    exact does_ret (Mem.only (M := []) HM20.out [] rfl) rfl rfl
  · have HP := handleD_pass (s := newD 0 4) (m := (⟨2, fr, 0, seq, ab, ab, msgMid, none, 0, 0⟩ : InM)) (l := []) rfl (by simp [nodeB]; omega) (show ¬ fr = 0 by omega)
    have HX : Hid ((handleD (newD 0 4) ((⟨2, fr, 0, seq, ab, ab, msgMid, none, 0, 0⟩ : InM).mm [])).2 = []) := Lib.hid (by rw [HP]; unfold handL; rw [if_neg (show ¬ (2 : Int) = 1 by decide), if_pos rfl]; unfold ackD; rw [if_pos (by show ab = (fromD (newD 0 4) fr).self; rw [from_self]; exact hz), if_neg (fun h => by have h2 : 0 ≤ (fromD (newD 0 4) fr).asked := h.2; rw [from_asked] at h2; exact absurd h2 (by decide))])
    clear HP
    have gz : (ab != 0) = false := by rw [bne_eq_false_iff_eq]; exact hz
    clear hz
    refine wp_region_N [(0, 3), (1, 1)] (by kernel_rfl) ?_
    refine wpS_doesU2 (i := 0) (d := some 29) (rem := [_, _]) rfl (by rfl) rfl Try.call21 (new_d 0 4 (by decide) (by decide)) rfl rfl HM6.out [] rfl covS_nil (fun _ => rfl) rfl ?_
    rintro u23 W22 hm21 -
    obtain ⟨bk, hm21e⟩ := Mem.ex hm21
    clear hm21
    obtain ⟨hm21u, hm21⟩ := Mem.pr hm21e
    clear hm21e
    subst hm21u
    have HM24 := Lib.hid hm21
    clear hm21
    simp only [Act.put, List.setIfInBounds_toArray, List.set_cons_succ, List.set_cons_zero]
    refine wpS_this [1] rfl (by kernel_rfl) (by simp only [pickL, nthL, List.cons_append, List.nil_append]; rfl) ?_
    repeat (go_big_quiet_step (fail))
    refine wpQuiet_nil ?_
    refine wpS_nil ?_
    refine then_normal ?_
    refine wp_seq ?_
    refine wp_region_N [(0, 1), (1, 1), (2, 1), (3, 1), (4, 1), (5, 1), (6, 1), (7, 3), (8, 1)] (by kernel_rfl) ?_
    refine wpS_this [0, 1, 2, 3, 4, 5] rfl (by kernel_rfl) (by simp only [pickL, nthL, List.cons_append, List.nil_append]; rfl) ?_
    repeat (go_big_quiet_step (fail))
    refine wpQuiet_nil ?_
    refine wpS_read (i := 6) (d := some 36) (v := .agg (InM.enc ⟨2, fr, 0, seq, ab, ab, msgMid, none, 0, 0⟩).toArray) rfl (by rfl) (by kernel_rfl) rfl ?_
    simp only [Act.put, List.setIfInBounds_toArray, List.set_cons_succ, List.set_cons_zero]
    refine wpS_doesU2 (i := 7) (d := some 37) (rem := [_]) rfl (by rfl) rfl Try.call10 (handle_d bk.d (newD 0 4) bk.pv bk.pq bk.po bk.pc (rowT elemCl (.slice none 0 0) []) (⟨2, fr, 0, seq, ab, ab, msgMid, none, 0, 0⟩ : InM) [] (fun W H h => rowAt_src (rowT_reads W H h)) (by decide) msgMid_len (lok_new (by decide) (by decide))) rfl rfl HM24.out [6, 0, 0, 0, 0, 0] rfl covS_nil (fun _ => rfl) rfl ?_
    rintro u27 W26 hm25 -
    rw [HX.out] at hm25
    obtain ⟨zp, zc, hm25u, hm25m⟩ := msgs_open0 hm25
    clear hm25
    subst hm25u
    have HM28 := Lib.hid hm25m
    clear hm25m
    simp only [Act.put, List.setIfInBounds_toArray, List.set_cons_succ, List.set_cons_zero]
    refine wpS_this [8] rfl (by kernel_rfl) (by simp only [pickL, nthL, List.cons_append, List.nil_append]; rfl) ?_
    repeat (go_big_quiet_step (fail))
    refine wpQuiet_nil ?_
    refine wpS_nil ?_
    refine then_normal ?_
    refine wp_seq ?_
    refine wp_block ?_
    refine wp_seq ?_
    refine wp_region_N [(0, 1), (1, 1), (2, 1)] (by kernel_rfl) ?_
    refine wpS_this [0, 1, 2] rfl (by kernel_rfl) (by simp only [pickL, nthL, List.cons_append, List.nil_append]; rfl) ?_
    repeat (go_big_quiet_step (fail))
    refine wpQuiet_nil ?_
    refine wpS_nil ?_
    refine then_normal ?_
    refine wp_cond_false rfl ?_
    refine wp_seq ?_
    refine wp_region_N [(0, 1), (1, 1), (2, 1), (3, 1), (4, 1), (5, 1), (6, 1)] (by kernel_rfl) ?_
    refine wpS_this [0, 1, 2, 3, 4, 5, 6] rfl (by kernel_rfl) (by simp only [pickL, nthL, List.cons_append, List.nil_append]; rfl) ?_
    repeat (go_big_quiet_step (fail))
    refine wpQuiet_nil ?_
    refine wpS_nil ?_
    refine then_normal ?_
    refine wp_cond_false rfl ?_
    refine wp_seq ?_
    refine wp_region_N [(0, 1), (1, 1), (2, 1), (3, 1), (4, 1), (5, 1), (6, 1)] (by kernel_rfl) ?_
    refine wpS_this [0, 1, 2, 3, 4, 5, 6] rfl (by kernel_rfl) (by simp only [pickL, nthL, List.cons_append, List.nil_append]; rfl) ?_
    repeat (go_big_quiet_step (fail))
    refine wpQuiet_nil ?_
    refine wpS_nil ?_
    refine then_normal ?_
    refine wp_cond_false rfl ?_
    refine wp_skip ?_
    refine block_normal ?_
    refine then_normal ?_
    refine wp_seq ?_
    have HSelf : (handleD (newD 0 4) ((⟨2, fr, 0, seq, ab, ab, msgMid, none, 0, 0⟩ : InM).mm [])).1.self = 0 := (up_handleD (newD 0 4) ((⟨2, fr, 0, seq, ab, ab, msgMid, none, 0, 0⟩ : InM).mm [])).self
    have HOK := Lib.hid (lok_handle (s := newD 0 4) (m := (⟨2, fr, 0, seq, ab, ab, msgMid, none, 0, 0⟩ : InM)) (l := []) (lok_new (by decide) (by decide)))
    have HY : Hid ((handleD (handleD (newD 0 4) ((⟨2, fr, 0, seq, ab, ab, msgMid, none, 0, 0⟩ : InM).mm [])).1 ((⟨2, fr, 1, 0, 0, 0, msgMid, none, 0, 0⟩ : InM).mm [])).2 = []) := Lib.hid (by unfold handleD; rw [if_pos (.inl (by show ¬ (1 : Int) = (handleD (newD 0 4) ((⟨2, fr, 0, seq, ab, ab, msgMid, none, 0, 0⟩ : InM).mm [])).1.self; rw [HSelf]; decide))])
    clear HSelf
    refine wp_region_N [(0, 1), (1, 1), (2, 1), (3, 1), (4, 1), (5, 1), (6, 1), (7, 1), (8, 3), (9, 1), (10, 1), (11, 1), (12, 1), (13, 3), (14, 1), (15, 1)] (by kernel_rfl) ?_
    refine wpS_this [0, 1, 2, 3, 4, 5, 6] rfl (by kernel_rfl) (by simp only [pickL, nthL, List.cons_append, List.nil_append]; rfl) ?_
    repeat (go_big_quiet_step (fail))
    refine wpQuiet_nil ?_
    refine wpS_read (i := 7) (d := some 173) (v := .agg (InM.enc ⟨2, fr, 1, 0, 0, 0, msgMid, none, 0, 0⟩).toArray) rfl (by rfl) (by kernel_rfl) rfl ?_
    simp only [Act.put, List.setIfInBounds_toArray, List.set_cons_succ, List.set_cons_zero]
    refine wpS_doesU2 (i := 8) (d := some 174) (rem := [_]) rfl (by rfl) rfl Try.call10 (handle_d bk.d (handleD (newD 0 4) ((⟨2, fr, 0, seq, ab, ab, msgMid, none, 0, 0⟩ : InM).mm [])).1 bk.pv bk.pq bk.po bk.pc (rowT elemCl (.slice none 0 0) []) (⟨2, fr, 1, 0, 0, 0, msgMid, none, 0, 0⟩ : InM) [] (fun W H h => rowAt_src (rowT_reads W H h)) (by decide) msgMid_len HOK.out) rfl rfl HM28.out [0, 0, 0, 0, 0, 0] rfl covS_nil (fun _ => rfl) rfl ?_
    rintro u31 W30 hm29 -
    rw [HY.out] at hm29
    obtain ⟨zp, zc, hm29u, hm29m⟩ := msgs_open0 hm29
    clear hm29
    subst hm29u
    have HM32 := Lib.hid hm29m
    clear hm29m
    simp only [Act.put, List.setIfInBounds_toArray, List.set_cons_succ, List.set_cons_zero]
    refine wpS_this [9, 10, 11, 12] rfl (by kernel_rfl) (by simp only [pickL, nthL, List.cons_append, List.nil_append]; rfl) ?_
    repeat (go_big_quiet_step (fail))
    refine wpQuiet_nil ?_
    refine wpS_does0 (i := 13) (d := some 179) (rem := [_, _, _, _, _, _, _]) (out := [_, _, _, _, _, _, _]) rfl (by rfl) rfl Try.call18 (awake_d)  HM32.out [] rfl covS_nil rfl rfl ?_
    rintro W34 hm33 -
    have HM35 := Lib.hid hm33
    clear hm33
    simp only [Act.put, List.setIfInBounds_toArray, List.set_cons_succ, List.set_cons_zero]
    refine wpS_this [14, 15] rfl (by kernel_rfl) (by simp only [pickL, nthL, List.cons_append, List.nil_append]; rfl) ?_
    repeat (go_big_quiet_step (fail))
    refine wpQuiet_nil ?_
    refine wpS_nil ?_
    refine then_normal ?_
    refine wp_ret ?_
    refine bodyPost_ret (results_tmp rfl _ _ _) rfl ?_
    exact does_ret (Mem.only (M := []) HM35.out [] rfl) rfl rfl
  · have HP := handleD_pass (s := newD 0 4) (m := (⟨2, fr, 0, seq, ab, ab, msgMid, none, 0, 0⟩ : InM)) (l := []) rfl (by simp [nodeB]; omega) (show ¬ fr = 0 by omega)
    have HX : Hid ((handleD (newD 0 4) ((⟨2, fr, 0, seq, ab, ab, msgMid, none, 0, 0⟩ : InM).mm [])).2 = [⟨2, 0, ab, seq, ab, 0, claimsTo (fromD (newD 0 4) fr) ab⟩]) := Lib.hid (by rw [HP]; unfold handL; rw [if_neg (show ¬ (2 : Int) = 1 by decide), if_pos rfl]; unfold ackD; rw [if_neg (by show ¬ ab = (fromD (newD 0 4) fr).self; rw [from_self]; exact hz), if_pos (by simp [nodeB]; omega)]; show (postD (fromD (newD 0 4) fr) 2 ab seq ab 0).2 = _; rw [postD_out (from_left (new_left 0 4) fr)]; show [(⟨2, (fromD (newD 0 4) fr).self, ab, seq, ab, 0, claimsTo (fromD (newD 0 4) fr) ab⟩ : MM)] = _; rw [from_self]; rfl)
    clear HP
    have gz : (ab != 0) = true := by rw [bne_iff_ne]; exact hz
    clear hz
    refine wp_region_N [(0, 3), (1, 1)] (by kernel_rfl) ?_
    refine wpS_doesU2 (i := 0) (d := some 29) (rem := [_, _]) rfl (by rfl) rfl Try.call21 (new_d 0 4 (by decide) (by decide)) rfl rfl HM6.out [] rfl covS_nil (fun _ => rfl) rfl ?_
    rintro u38 W37 hm36 -
    obtain ⟨bk, hm36e⟩ := Mem.ex hm36
    clear hm36
    obtain ⟨hm36u, hm36⟩ := Mem.pr hm36e
    clear hm36e
    subst hm36u
    have HM39 := Lib.hid hm36
    clear hm36
    simp only [Act.put, List.setIfInBounds_toArray, List.set_cons_succ, List.set_cons_zero]
    refine wpS_this [1] rfl (by kernel_rfl) (by simp only [pickL, nthL, List.cons_append, List.nil_append]; rfl) ?_
    repeat (go_big_quiet_step (fail))
    refine wpQuiet_nil ?_
    refine wpS_nil ?_
    refine then_normal ?_
    refine wp_seq ?_
    refine wp_region_N [(0, 1), (1, 1), (2, 1), (3, 1), (4, 1), (5, 1), (6, 1), (7, 3), (8, 1)] (by kernel_rfl) ?_
    refine wpS_this [0, 1, 2, 3, 4, 5] rfl (by kernel_rfl) (by simp only [pickL, nthL, List.cons_append, List.nil_append]; rfl) ?_
    repeat (go_big_quiet_step (fail))
    refine wpQuiet_nil ?_
    refine wpS_read (i := 6) (d := some 36) (v := .agg (InM.enc ⟨2, fr, 0, seq, ab, ab, msgMid, none, 0, 0⟩).toArray) rfl (by rfl) (by kernel_rfl) rfl ?_
    simp only [Act.put, List.setIfInBounds_toArray, List.set_cons_succ, List.set_cons_zero]
    refine wpS_doesU2 (i := 7) (d := some 37) (rem := [_]) rfl (by rfl) rfl Try.call10 (handle_d bk.d (newD 0 4) bk.pv bk.pq bk.po bk.pc (rowT elemCl (.slice none 0 0) []) (⟨2, fr, 0, seq, ab, ab, msgMid, none, 0, 0⟩ : InM) [] (fun W H h => rowAt_src (rowT_reads W H h)) (by decide) msgMid_len (lok_new (by decide) (by decide))) rfl rfl HM39.out [6, 0, 0, 0, 0, 0] rfl covS_nil (fun _ => rfl) rfl ?_
    rintro u42 W41 hm40 -
    rw [HX.out] at hm40
    obtain ⟨mb, mo, mc, mp, mcap, hm40u, hm40m⟩ := msgs_open1 hm40
    clear hm40
    subst hm40u
    have HM43 := Lib.hid hm40m
    clear hm40m
    simp only [Act.put, List.setIfInBounds_toArray, List.set_cons_succ, List.set_cons_zero]
    refine wpS_this [8] rfl (by kernel_rfl) (by simp only [pickL, nthL, List.cons_append, List.nil_append]; rfl) ?_
    repeat (go_big_quiet_step (fail))
    refine wpQuiet_nil ?_
    refine wpS_nil ?_
    refine then_normal ?_
    refine wp_seq ?_
    refine wp_block ?_
    refine wp_seq ?_
    refine wp_region_N [(0, 1), (1, 1), (2, 1)] (by kernel_rfl) ?_
    refine wpS_this [0, 1, 2] rfl (by kernel_rfl) (by simp only [pickL, nthL, List.cons_append, List.nil_append]; rfl) ?_
    repeat (go_big_quiet_step (fail))
    refine wpQuiet_nil ?_
    refine wpS_nil ?_
    refine then_normal ?_
    refine wp_cond_false rfl ?_
    refine wp_seq ?_
    refine wp_region_N [(0, 1), (1, 1), (2, 1), (3, 1), (4, 1), (5, 1), (6, 1)] (by kernel_rfl) ?_
    refine wpS_this [0, 1, 2, 3, 4, 5, 6] rfl (by kernel_rfl) (by simp only [pickL, nthL, List.cons_append, List.nil_append]; rfl) ?_
    repeat (go_big_quiet_step (fail))
    refine wpQuiet_nil ?_
    refine wpS_nil ?_
    refine then_normal ?_
    refine wp_cond_true rfl ?_
    refine wp_seq ?_
    refine wp_region_N [(0, 1), (1, 1), (2, 1), (3, 1), (4, 1), (5, 1), (6, 1), (7, 1), (8, 1), (9, 1), (10, 1), (11, 1), (12, 1), (13, 1), (14, 1), (15, 1), (16, 1), (17, 1), (18, 1), (19, 1), (20, 1), (21, 1), (22, 1), (23, 1), (24, 1), (25, 1), (26, 1), (27, 1), (28, 1), (29, 1), (30, 1), (31, 1), (32, 1), (33, 1), (34, 1), (35, 3), (36, 1), (37, 1)] (by kernel_rfl) ?_
    have c0 : World.cell? _ ⟨mb, mo, none⟩ = some (.int .i64 2) := row_cell0 HM43.out 0 rfl rfl 0 _ rfl
    have c2 : World.cell? _ ⟨mb, mo + 2, none⟩ = some (.int .i64 ab) := row_cell0 HM43.out 0 rfl rfl 2 _ rfl
    have c3 : World.cell? _ ⟨mb, mo + 3, none⟩ = some (.int .i64 seq) := row_cell0 HM43.out 0 rfl rfl 3 _ rfl
    have c4 : World.cell? _ ⟨mb, mo + 4, none⟩ = some (.int .i64 ab) := row_cell0 HM43.out 0 rfl rfl 4 _ rfl
    refine wpS_this [0, 1, 2, 3, 4, 5, 6, 7, 8, 9, 10, 11, 12, 13, 14, 15, 16, 17, 18, 19, 20, 21, 22, 23, 24, 25, 26, 27, 28, 29, 30, 31, 32, 33, 34] rfl (by kernel_rfl) (by simp only [pickL, nthL, List.cons_append, List.nil_append]; rfl) ?_
    repeat (go_big_quiet_step (fail))
    refine wpQuiet_nil ?_
    refine wpS_does0 (i := 35) (d := some 120) (rem := [_, _, _, _, _, _, _, _, _]) (out := [_, _, _, _, _, _, _, _, _]) rfl (by rfl) rfl Try.call18 (awake_d)  HM43.out [] rfl covS_nil rfl rfl ?_
    rintro W45 hm44 -
    have HM46 := Lib.hid hm44
    clear hm44
    simp only [Act.put, List.setIfInBounds_toArray, List.set_cons_succ, List.set_cons_zero]
    refine wpS_this [36, 37] rfl (by kernel_rfl) (by simp only [pickL, nthL, List.cons_append, List.nil_append]; rfl) ?_
    repeat (go_big_quiet_step (fail))
    refine wpQuiet_nil ?_
    refine wpS_nil ?_
    refine then_normal ?_
    refine wp_ret ?_
    refine block_ret (then_ret ?_)
    refine bodyPost_ret (results_tmp rfl _ _ _) rfl ?_
    exact does_ret (Mem.only (M := []) HM46.out [] rfl) rfl rfl
  · have HP := handleD_pass (s := newD 0 4) (m := (⟨3, fr, 0, seq, ab, ab, msgMid, none, 0, 0⟩ : InM)) (l := []) rfl (by simp [nodeB]; omega) (show ¬ fr = 0 by omega)
    have HX : Hid ((handleD (newD 0 4) ((⟨3, fr, 0, seq, ab, ab, msgMid, none, 0, 0⟩ : InM).mm [])).2 = []) := Lib.hid (by rw [HP]; unfold handL; rw [if_neg (show ¬ (3 : Int) = 1 by decide), if_neg (show ¬ (3 : Int) = 2 by decide), if_pos rfl]; unfold pingReqD; rw [if_neg (fun h => h.2 (by show ab = (fromD (newD 0 4) fr).self; rw [from_self]; exact hz))])
    clear HP
    have gz : (ab != 0) = false := by rw [bne_eq_false_iff_eq]; exact hz
    clear hz
    refine wp_region_N [(0, 3), (1, 1)] (by kernel_rfl) ?_
    refine wpS_doesU2 (i := 0) (d := some 29) (rem := [_, _]) rfl (by rfl) rfl Try.call21 (new_d 0 4 (by decide) (by decide)) rfl rfl HM6.out [] rfl covS_nil (fun _ => rfl) rfl ?_
    rintro u49 W48 hm47 -
    obtain ⟨bk, hm47e⟩ := Mem.ex hm47
    clear hm47
    obtain ⟨hm47u, hm47⟩ := Mem.pr hm47e
    clear hm47e
    subst hm47u
    have HM50 := Lib.hid hm47
    clear hm47
    simp only [Act.put, List.setIfInBounds_toArray, List.set_cons_succ, List.set_cons_zero]
    refine wpS_this [1] rfl (by kernel_rfl) (by simp only [pickL, nthL, List.cons_append, List.nil_append]; rfl) ?_
    repeat (go_big_quiet_step (fail))
    refine wpQuiet_nil ?_
    refine wpS_nil ?_
    refine then_normal ?_
    refine wp_seq ?_
    refine wp_region_N [(0, 1), (1, 1), (2, 1), (3, 1), (4, 1), (5, 1), (6, 1), (7, 3), (8, 1)] (by kernel_rfl) ?_
    refine wpS_this [0, 1, 2, 3, 4, 5] rfl (by kernel_rfl) (by simp only [pickL, nthL, List.cons_append, List.nil_append]; rfl) ?_
    repeat (go_big_quiet_step (fail))
    refine wpQuiet_nil ?_
    refine wpS_read (i := 6) (d := some 36) (v := .agg (InM.enc ⟨3, fr, 0, seq, ab, ab, msgMid, none, 0, 0⟩).toArray) rfl (by rfl) (by kernel_rfl) rfl ?_
    simp only [Act.put, List.setIfInBounds_toArray, List.set_cons_succ, List.set_cons_zero]
    refine wpS_doesU2 (i := 7) (d := some 37) (rem := [_]) rfl (by rfl) rfl Try.call10 (handle_d bk.d (newD 0 4) bk.pv bk.pq bk.po bk.pc (rowT elemCl (.slice none 0 0) []) (⟨3, fr, 0, seq, ab, ab, msgMid, none, 0, 0⟩ : InM) [] (fun W H h => rowAt_src (rowT_reads W H h)) (by decide) msgMid_len (lok_new (by decide) (by decide))) rfl rfl HM50.out [6, 0, 0, 0, 0, 0] rfl covS_nil (fun _ => rfl) rfl ?_
    rintro u53 W52 hm51 -
    rw [HX.out] at hm51
    obtain ⟨zp, zc, hm51u, hm51m⟩ := msgs_open0 hm51
    clear hm51
    subst hm51u
    have HM54 := Lib.hid hm51m
    clear hm51m
    simp only [Act.put, List.setIfInBounds_toArray, List.set_cons_succ, List.set_cons_zero]
    refine wpS_this [8] rfl (by kernel_rfl) (by simp only [pickL, nthL, List.cons_append, List.nil_append]; rfl) ?_
    repeat (go_big_quiet_step (fail))
    refine wpQuiet_nil ?_
    refine wpS_nil ?_
    refine then_normal ?_
    refine wp_seq ?_
    refine wp_block ?_
    refine wp_seq ?_
    refine wp_region_N [(0, 1), (1, 1), (2, 1)] (by kernel_rfl) ?_
    refine wpS_this [0, 1, 2] rfl (by kernel_rfl) (by simp only [pickL, nthL, List.cons_append, List.nil_append]; rfl) ?_
    repeat (go_big_quiet_step (fail))
    refine wpQuiet_nil ?_
    refine wpS_nil ?_
    refine then_normal ?_
    refine wp_cond_false rfl ?_
    refine wp_seq ?_
    refine wp_region_N [(0, 1), (1, 1), (2, 1), (3, 1), (4, 1), (5, 1), (6, 1)] (by kernel_rfl) ?_
    refine wpS_this [0, 1, 2, 3, 4, 5, 6] rfl (by kernel_rfl) (by simp only [pickL, nthL, List.cons_append, List.nil_append]; rfl) ?_
    repeat (go_big_quiet_step (fail))
    refine wpQuiet_nil ?_
    refine wpS_nil ?_
    refine then_normal ?_
    refine wp_cond_false rfl ?_
    refine wp_seq ?_
    refine wp_region_N [(0, 1), (1, 1), (2, 1), (3, 1), (4, 1), (5, 1), (6, 1)] (by kernel_rfl) ?_
    refine wpS_this [0, 1, 2, 3, 4, 5, 6] rfl (by kernel_rfl) (by simp only [pickL, nthL, List.cons_append, List.nil_append]; rfl) ?_
    repeat (go_big_quiet_step (fail))
    refine wpQuiet_nil ?_
    refine wpS_nil ?_
    refine then_normal ?_
    refine wp_cond_false rfl ?_
    refine wp_skip ?_
    refine block_normal ?_
    refine then_normal ?_
    refine wp_seq ?_
    have HSelf : (handleD (newD 0 4) ((⟨3, fr, 0, seq, ab, ab, msgMid, none, 0, 0⟩ : InM).mm [])).1.self = 0 := (up_handleD (newD 0 4) ((⟨3, fr, 0, seq, ab, ab, msgMid, none, 0, 0⟩ : InM).mm [])).self
    have HOK := Lib.hid (lok_handle (s := newD 0 4) (m := (⟨3, fr, 0, seq, ab, ab, msgMid, none, 0, 0⟩ : InM)) (l := []) (lok_new (by decide) (by decide)))
    have HY : Hid ((handleD (handleD (newD 0 4) ((⟨3, fr, 0, seq, ab, ab, msgMid, none, 0, 0⟩ : InM).mm [])).1 ((⟨3, fr, 1, 0, 0, 0, msgMid, none, 0, 0⟩ : InM).mm [])).2 = []) := Lib.hid (by unfold handleD; rw [if_pos (.inl (by show ¬ (1 : Int) = (handleD (newD 0 4) ((⟨3, fr, 0, seq, ab, ab, msgMid, none, 0, 0⟩ : InM).mm [])).1.self; rw [HSelf]; decide))])
    clear HSelf
    refine wp_region_N [(0, 1), (1, 1), (2, 1), (3, 1), (4, 1), (5, 1), (6, 1), (7, 1), (8, 3), (9, 1), (10, 1), (11, 1), (12, 1), (13, 3), (14, 1), (15, 1)] (by kernel_rfl) ?_
    refine wpS_this [0, 1, 2, 3, 4, 5, 6] rfl (by kernel_rfl) (by simp only [pickL, nthL, List.cons_append, List.nil_append]; rfl) ?_
    repeat (go_big_quiet_step (fail))
    refine wpQuiet_nil ?_
    refine wpS_read (i := 7) (d := some 173) (v := .agg (InM.enc ⟨3, fr, 1, 0, 0, 0, msgMid, none, 0, 0⟩).toArray) rfl (by rfl) (by kernel_rfl) rfl ?_
    simp only [Act.put, List.setIfInBounds_toArray, List.set_cons_succ, List.set_cons_zero]
    refine wpS_doesU2 (i := 8) (d := some 174) (rem := [_]) rfl (by rfl) rfl Try.call10 (handle_d bk.d (handleD (newD 0 4) ((⟨3, fr, 0, seq, ab, ab, msgMid, none, 0, 0⟩ : InM).mm [])).1 bk.pv bk.pq bk.po bk.pc (rowT elemCl (.slice none 0 0) []) (⟨3, fr, 1, 0, 0, 0, msgMid, none, 0, 0⟩ : InM) [] (fun W H h => rowAt_src (rowT_reads W H h)) (by decide) msgMid_len HOK.out) rfl rfl HM54.out [0, 0, 0, 0, 0, 0] rfl covS_nil (fun _ => rfl) rfl ?_
    rintro u57 W56 hm55 -
    rw [HY.out] at hm55
    obtain ⟨zp, zc, hm55u, hm55m⟩ := msgs_open0 hm55
    clear hm55
    subst hm55u
    have HM58 := Lib.hid hm55m
    clear hm55m
    simp only [Act.put, List.setIfInBounds_toArray, List.set_cons_succ, List.set_cons_zero]
    refine wpS_this [9, 10, 11, 12] rfl (by kernel_rfl) (by simp only [pickL, nthL, List.cons_append, List.nil_append]; rfl) ?_
    repeat (go_big_quiet_step (fail))
    refine wpQuiet_nil ?_
    refine wpS_does0 (i := 13) (d := some 179) (rem := [_, _, _, _, _, _, _]) (out := [_, _, _, _, _, _, _]) rfl (by rfl) rfl Try.call18 (awake_d)  HM58.out [] rfl covS_nil rfl rfl ?_
    rintro W60 hm59 -
    have HM61 := Lib.hid hm59
    clear hm59
    simp only [Act.put, List.setIfInBounds_toArray, List.set_cons_succ, List.set_cons_zero]
    refine wpS_this [14, 15] rfl (by kernel_rfl) (by simp only [pickL, nthL, List.cons_append, List.nil_append]; rfl) ?_
    repeat (go_big_quiet_step (fail))
    refine wpQuiet_nil ?_
    refine wpS_nil ?_
    refine then_normal ?_
    refine wp_ret ?_
    refine bodyPost_ret (results_tmp rfl _ _ _) rfl ?_
    exact does_ret (Mem.only (M := []) HM61.out [] rfl) rfl rfl
  · have HP := handleD_pass (s := newD 0 4) (m := (⟨3, fr, 0, seq, ab, ab, msgMid, none, 0, 0⟩ : InM)) (l := []) rfl (by simp [nodeB]; omega) (show ¬ fr = 0 by omega)
    have HX : Hid ((handleD (newD 0 4) ((⟨3, fr, 0, seq, ab, ab, msgMid, none, 0, 0⟩ : InM).mm [])).2 = [⟨1, 0, ab, seq, fr, 0, claimsTo (fromD (newD 0 4) fr) ab⟩]) := Lib.hid (by rw [HP]; unfold handL; rw [if_neg (show ¬ (3 : Int) = 1 by decide), if_neg (show ¬ (3 : Int) = 2 by decide), if_pos rfl]; unfold pingReqD; rw [if_pos ⟨by simp [nodeB]; omega, by show ab ≠ (fromD (newD 0 4) fr).self; rw [from_self]; exact hz⟩]; show (postD (fromD (newD 0 4) fr) 1 ab seq fr 0).2 = _; rw [postD_out (from_left (new_left 0 4) fr)]; show [(⟨1, (fromD (newD 0 4) fr).self, ab, seq, fr, 0, claimsTo (fromD (newD 0 4) fr) ab⟩ : MM)] = _; rw [from_self]; rfl)
    clear HP
    have gz : (ab != 0) = true := by rw [bne_iff_ne]; exact hz
    clear hz
    refine wp_region_N [(0, 3), (1, 1)] (by kernel_rfl) ?_
    refine wpS_doesU2 (i := 0) (d := some 29) (rem := [_, _]) rfl (by rfl) rfl Try.call21 (new_d 0 4 (by decide) (by decide)) rfl rfl HM6.out [] rfl covS_nil (fun _ => rfl) rfl ?_
    rintro u64 W63 hm62 -
    obtain ⟨bk, hm62e⟩ := Mem.ex hm62
    clear hm62
    obtain ⟨hm62u, hm62⟩ := Mem.pr hm62e
    clear hm62e
    subst hm62u
    have HM65 := Lib.hid hm62
    clear hm62
    simp only [Act.put, List.setIfInBounds_toArray, List.set_cons_succ, List.set_cons_zero]
    refine wpS_this [1] rfl (by kernel_rfl) (by simp only [pickL, nthL, List.cons_append, List.nil_append]; rfl) ?_
    repeat (go_big_quiet_step (fail))
    refine wpQuiet_nil ?_
    refine wpS_nil ?_
    refine then_normal ?_
    refine wp_seq ?_
    refine wp_region_N [(0, 1), (1, 1), (2, 1), (3, 1), (4, 1), (5, 1), (6, 1), (7, 3), (8, 1)] (by kernel_rfl) ?_
    refine wpS_this [0, 1, 2, 3, 4, 5] rfl (by kernel_rfl) (by simp only [pickL, nthL, List.cons_append, List.nil_append]; rfl) ?_
    repeat (go_big_quiet_step (fail))
    refine wpQuiet_nil ?_
    refine wpS_read (i := 6) (d := some 36) (v := .agg (InM.enc ⟨3, fr, 0, seq, ab, ab, msgMid, none, 0, 0⟩).toArray) rfl (by rfl) (by kernel_rfl) rfl ?_
    simp only [Act.put, List.setIfInBounds_toArray, List.set_cons_succ, List.set_cons_zero]
    refine wpS_doesU2 (i := 7) (d := some 37) (rem := [_]) rfl (by rfl) rfl Try.call10 (handle_d bk.d (newD 0 4) bk.pv bk.pq bk.po bk.pc (rowT elemCl (.slice none 0 0) []) (⟨3, fr, 0, seq, ab, ab, msgMid, none, 0, 0⟩ : InM) [] (fun W H h => rowAt_src (rowT_reads W H h)) (by decide) msgMid_len (lok_new (by decide) (by decide))) rfl rfl HM65.out [6, 0, 0, 0, 0, 0] rfl covS_nil (fun _ => rfl) rfl ?_
    rintro u68 W67 hm66 -
    rw [HX.out] at hm66
    obtain ⟨mb, mo, mc, mp, mcap, hm66u, hm66m⟩ := msgs_open1 hm66
    clear hm66
    subst hm66u
    have HM69 := Lib.hid hm66m
    clear hm66m
    simp only [Act.put, List.setIfInBounds_toArray, List.set_cons_succ, List.set_cons_zero]
    refine wpS_this [8] rfl (by kernel_rfl) (by simp only [pickL, nthL, List.cons_append, List.nil_append]; rfl) ?_
    repeat (go_big_quiet_step (fail))
    refine wpQuiet_nil ?_
    refine wpS_nil ?_
    refine then_normal ?_
    refine wp_seq ?_
    refine wp_block ?_
    refine wp_seq ?_
    refine wp_region_N [(0, 1), (1, 1), (2, 1)] (by kernel_rfl) ?_
    refine wpS_this [0, 1, 2] rfl (by kernel_rfl) (by simp only [pickL, nthL, List.cons_append, List.nil_append]; rfl) ?_
    repeat (go_big_quiet_step (fail))
    refine wpQuiet_nil ?_
    refine wpS_nil ?_
    refine then_normal ?_
    refine wp_cond_false rfl ?_
    refine wp_seq ?_
    refine wp_region_N [(0, 1), (1, 1), (2, 1), (3, 1), (4, 1), (5, 1), (6, 1)] (by kernel_rfl) ?_
    refine wpS_this [0, 1, 2, 3, 4, 5, 6] rfl (by kernel_rfl) (by simp only [pickL, nthL, List.cons_append, List.nil_append]; rfl) ?_
    repeat (go_big_quiet_step (fail))
    refine wpQuiet_nil ?_
    refine wpS_nil ?_
    refine then_normal ?_
    refine wp_cond_false rfl ?_
    refine wp_seq ?_
    refine wp_region_N [(0, 1), (1, 1), (2, 1), (3, 1), (4, 1), (5, 1), (6, 1)] (by kernel_rfl) ?_
    refine wpS_this [0, 1, 2, 3, 4, 5, 6] rfl (by kernel_rfl) (by simp only [pickL, nthL, List.cons_append, List.nil_append]; rfl) ?_
    repeat (go_big_quiet_step (fail))
    refine wpQuiet_nil ?_
    refine wpS_nil ?_
    refine then_normal ?_
    refine wp_cond_true rfl ?_
    refine wp_seq ?_
    refine wp_region_N [(0, 1), (1, 1), (2, 1), (3, 1), (4, 1), (5, 1), (6, 1), (7, 1), (8, 1), (9, 1), (10, 1), (11, 1), (12, 1), (13, 1), (14, 1), (15, 1), (16, 1), (17, 1), (18, 1), (19, 1), (20, 1), (21, 1), (22, 1), (23, 1), (24, 1), (25, 1), (26, 1), (27, 1), (28, 1), (29, 1), (30, 1), (31, 1), (32, 1), (33, 1), (34, 1), (35, 3), (36, 1), (37, 1)] (by kernel_rfl) ?_
    have c0 : World.cell? _ ⟨mb, mo, none⟩ = some (.int .i64 1) := row_cell0 HM69.out 0 rfl rfl 0 _ rfl
    have c2 : World.cell? _ ⟨mb, mo + 2, none⟩ = some (.int .i64 ab) := row_cell0 HM69.out 0 rfl rfl 2 _ rfl
    have c3 : World.cell? _ ⟨mb, mo + 3, none⟩ = some (.int .i64 seq) := row_cell0 HM69.out 0 rfl rfl 3 _ rfl
    have c4 : World.cell? _ ⟨mb, mo + 4, none⟩ = some (.int .i64 fr) := row_cell0 HM69.out 0 rfl rfl 4 _ rfl
    refine wpS_this [0, 1, 2, 3, 4, 5, 6, 7, 8, 9, 10, 11, 12, 13, 14, 15, 16, 17, 18, 19, 20, 21, 22, 23, 24, 25, 26, 27, 28, 29, 30, 31, 32, 33, 34] rfl (by kernel_rfl) (by simp only [pickL, nthL, List.cons_append, List.nil_append]; rfl) ?_
    repeat (go_big_quiet_step (fail))
    refine wpQuiet_nil ?_
    refine wpS_does0 (i := 35) (d := some 164) (rem := [_, _, _, _, _, _, _, _, _]) (out := [_, _, _, _, _, _, _, _, _]) rfl (by rfl) rfl Try.call18 (awake_d)  HM69.out [] rfl covS_nil rfl rfl ?_
    rintro W71 hm70 -
    have HM72 := Lib.hid hm70
    clear hm70
    simp only [Act.put, List.setIfInBounds_toArray, List.set_cons_succ, List.set_cons_zero]
    refine wpS_this [36, 37] rfl (by kernel_rfl) (by simp only [pickL, nthL, List.cons_append, List.nil_append]; rfl) ?_
    repeat (go_big_quiet_step (fail))
    refine wpQuiet_nil ?_
    refine wpS_nil ?_
    refine then_normal ?_
    refine wp_ret ?_
    refine block_ret (then_ret ?_)
    refine bodyPost_ret (results_tmp rfl _ _ _) rfl ?_
    exact does_ret (Mem.only (M := []) HM72.out [] rfl) rfl rfl

theorem answersLaw (frm about seq ton kind : Int) (W : World) : Gives Try.prog 6 #[.int .i64 frm, .int .i64 about, .int .i64 seq, .int .i64 ton, .int .i64 kind] W (.bool true) := (answers_d frm about seq ton kind).gives W
end Go.Proofs.Ytjbihgfdgaiecaa

namespace Go.Proofs.Ytjbihgfdgaiecaa.lawAnswers
open Go Go.ChangeShapes Go.WideShapes Go.ChangeAt Go.RowKit Go.Joins

set_option maxRecDepth 100000 in
theorem contract (H : Type) (enc : TypeId × Value → H) (W : World) (base : Nat) (args : Array Value) (ds gs : List (DataW H)) (before : List MemPlace)
    (hval : ∀ (j : Nat) t v, Try.f6.params[j]? = some t → args[j]? = some v → Value.okWide Try.prog W .any base t v)
    (hW : DataW.Whole enc Try.prog Try.f6.params.toList Rows.swimAnswersSpec.vars false W args.toList ds gs before)
    (hsz : (DataW.weightsEach Try.prog (Try.f6.params.toList ++ (OpenSpec.ofChange Rows.swimAnswersSpec).bare.plain.varTypes Try.prog) (ds ++ gs)).all (· ≤ reachBytes) = true) :
    Calls Try.prog 6 args W fun e W' => ∃ v, e = .returned v ∧ Rows.swimAnswersSpec.post enc Try.prog Try.f6 false true false false W args v W' := by
  have hW' := hW
  obtain ⟨p, q, hA0, hV, rfl, hfz, hnd⟩ := hW
  have hA : DataW.TrodAll enc Try.prog W 0 (fun _ => true) true Try.f6.params.toList args.toList ds p := hA0
  have hA' := hA
  rw [Try.params6] at hA hval
  obtain ⟨v0, vs0, d0, ds0, p0, q0, e0, rfl, rfl, g0, r0⟩ := trodAll_cons hA
  obtain ⟨v1, vs1, d1, ds1, p1, q1, e1, rfl, rfl, g1, r1⟩ := trodAll_cons r0
  obtain ⟨v2, vs2, d2, ds2, p2, q2, e2, rfl, rfl, g2, r2⟩ := trodAll_cons r1
  obtain ⟨v3, vs3, d3, ds3, p3, q3, e3, rfl, rfl, g3, r3⟩ := trodAll_cons r2
  obtain ⟨v4, vs4, d4, ds4, p4, q4, e4, rfl, rfl, g4, r4⟩ := trodAll_cons r3
  obtain ⟨e5, rfl, rfl⟩ := trodAll_nil r4
  obtain rfl : args = #[v0, v1, v2, v3, v4] := by
    apply Array.toList_inj.1
    rw [e0, e1, e2, e3, e4, e5]
  obtain ⟨rfl, rfl⟩ := trodVars_none hV
  obtain ⟨n0, rfl, _, _, _⟩ := open_int Try.underlying3 (hval 0 _ v0 rfl rfl) g0
  obtain ⟨n1, rfl, _, _, _⟩ := open_int Try.underlying3 (hval 1 _ v1 rfl rfl) g1
  obtain ⟨n2, rfl, _, _, _⟩ := open_int Try.underlying3 (hval 2 _ v2 rfl rfl) g2
  obtain ⟨n3, rfl, _, _, _⟩ := open_int Try.underlying3 (hval 3 _ v3 rfl rfl) g3
  obtain ⟨n4, rfl, _, _, _⟩ := open_int Try.underlying3 (hval 4 _ v4 rfl rfl) g4
  have hlt := fun (x : MemPlace) hx => hW'.lt x hx
  simp only [List.append_nil] at hW' hlt hA'
  refine Calls.mono (answersLaw n0 n1 n2 n3 n4 W) fun e W' ⟨he, x, hx⟩ => ?_
  subst he
  subst hx
  exact ⟨_, rfl, post_law (pv := []) hW' x.below (trodAll_cons_mk (shut_bool Try.underlying4 _) trodAll_mk0) (below_trodAll laidOut x.below (by kernel_rfl) hA' hlt) rfl (by simp only [List.append_nil])⟩

theorem reads (os : Os) {H : Type} (enc : TypeId × Value → H) : ∃ places, DataW.whole enc Try.prog ((World.laidAll Try.prog os Rows.swimAnswersRow.laid).forCall (fun _ _ => 0) ⟨#[], #[.int .i64 0, .int .i64 0, .int .i64 0, .int .i64 0, .int .i64 0], []⟩).memory Try.f6.params.toList Rows.swimAnswersSpec.vars false (#[.int .i64 0, .int .i64 0, .int .i64 0, .int .i64 0, .int .i64 0] : Array Value).toList 8 = some ([.lit (.int .i64 0), .lit (.int .i64 0), .lit (.int .i64 0), .lit (.int .i64 0), .lit (.int .i64 0)], [], places) :=
  ⟨[], by kernel_rfl⟩

set_option maxRecDepth 100000 in
theorem lifted (os : Os) (started : os.Started) (H : Type) (enc : TypeId × Value → H) (F : Stop.Interp) :
    ReturnsInHanded {} Try.checked os 6 .any ((OpenSpec.ofChange Rows.swimAnswersSpec).preRow enc Try.prog Try.f6 Rows.swimAnswersRow.domain false Rows.swimAnswersRow.laid) (((OpenSpec.ofChange Rows.swimAnswersSpec).at F).post enc Try.prog Try.f6 false true false false) := by
  obtain ⟨places, hx⟩ := reads os enc
  refine returnsInHanded_of_row (C := Try.checked) (s := OpenSpec.ofChange Rows.swimAnswersSpec) own started (by kernel_rfl) Try.func6
    (witness_row_at (enc := enc) (C := Try.checked) false (World.laidAll Try.prog os Rows.swimAnswersRow.laid) #[.int .i64 0, .int .i64 0, .int .i64 0, .int .i64 0, .int .i64 0] (World.laidAll_os _ _ _) (by kernel_rfl) (by kernel_rfl) (by kernel_rfl)
      (OpenSpec.preRow_of_cond 8 hx (by kernel_rfl) (fun k hk => by cases hk) (by kernel_rfl) (laidMet_laidAll _ (by kernel_rfl) (by kernel_rfl)))) ?_
  intro W base args ds gs before hval hW _ _ hsz _ _ _
  exact contract H enc W base args ds gs before hval hW hsz

theorem said : Rows.SwimAnswersSaid :=
  OpenClaim.holds_of_cond 6 Try.f6 rfl rfl rfl rfl rfl rfl rfl ⟨rfl, rfl, rfl, rfl, rfl⟩ rfl rfl rfl rfl rfl (by kernel_rfl) Try.func6 (by kernel_rfl)
    (of_decide_eq_true (by kernel_rfl)) (by unfold Func.isWrapper; first | (rw [if_pos (by decide +kernel)]; kernel_rfl) | (rw [if_neg (by decide +kernel)]; exact ⟨rfl, rfl⟩))
    (fun os started H enc _ F => by rw [OpenClaim.pre_eq_preRow]; exact lifted os started H enc F)
end Go.Proofs.Ytjbihgfdgaiecaa.lawAnswers
