/- Bags: the landed bag, its small ones. -/
import Derived.Test.YtneeidedadlioaaBgK
namespace Go.Proofs.Ytneeidedadlioaa
open Go Go.RowKit Go.BigFrame

theorem foldI_step (l : List Vl) {m : List Vl} {k : Nat} {y : Vl} (q : Vl → Bool) (h : m[k]? = some y) : foldI l ((m.take (k + 1)).filter q) = if q y = true then insB y (foldI l ((m.take k).filter q)) else foldI l ((m.take k).filter q) := by
  rw [filter_step h]
  unfold foldI
  rw [List.foldl_append]
  split <;> rfl
theorem srt_part {a b : Bg} (ha : MayB a) (hb : MayB b) (k : Nat) : Srt (foldI (keptA a b) ((b.v.take k).filter fun x => !hasV a.k x.1)) :=
  srt_foldI (ha.srt.sublist List.filter_sublist) ((srt_take hb.srt k).sublist List.filter_sublist) fun x hx y hy e => by
    have h1 := ha.has x (mem_keptA.1 hx).1
    have h2 := (List.mem_filter.1 hy).2
    rw [← e, h1] at h2
    cases h2
theorem part_len {a b : Bg} (ha : MayB a) (hb : MayB b) (k : Nat) : (foldI (keptA a b) ((b.v.take k).filter fun x => !hasV a.k x.1)).length ≤ 64 := by
  rw [foldI_len]
  have h1 : (keptA a b).length ≤ a.v.length := List.length_filter_le _ _
  have h2 := filter_le (fun x : Vl => !hasV a.k x.1) b.v k
  have h3 := ha.len
  have h4 := hb.len
  omega
theorem join_ways {a b x : Bg} {e : Int} (h : joinBR a b = (x, e)) : (mayB a = false ∧ x = noB ∧ e = 1) ∨ (mayB a = true ∧ mayB b = false ∧ x = noB ∧ e = 1) ∨ (mayB a = true ∧ mayB b = true ∧ ¬ (joinB a b).v.length ≤ 32 ∧ x = noB ∧ e = 5) ∨ (mayB a = true ∧ mayB b = true ∧ (joinB a b).v.length ≤ 32 ∧ x = joinB a b ∧ e = 0) := by
  unfold joinBR at h
  cases h1 : mayB a
  · rw [if_neg (by rw [h1]; simp)] at h
    obtain ⟨k1, k2⟩ := Prod.mk.inj h
    exact .inl ⟨rfl, k1.symm, k2.symm⟩
  · cases h2 : mayB b
    · rw [if_neg (by rw [h2]; simp)] at h
      obtain ⟨k1, k2⟩ := Prod.mk.inj h
      exact .inr (.inl ⟨rfl, rfl, k1.symm, k2.symm⟩)
    · rw [if_pos ⟨h1, h2⟩] at h
      split at h
      · obtain ⟨k1, k2⟩ := Prod.mk.inj h
        exact .inr (.inr (.inr ⟨rfl, rfl, by assumption, k1.symm, k2.symm⟩))
      · obtain ⟨k1, k2⟩ := Prod.mk.inj h
        exact .inr (.inr (.inl ⟨rfl, rfl, by assumption, k1.symm, k2.symm⟩))
theorem dotB_ways (d1 d2 : Int) : (¬ 0 ≤ d1 ∧ dotB (d1, d2) = false) ∨ (0 ≤ d1 ∧ ¬ d1 < 8 ∧ dotB (d1, d2) = false) ∨ (0 ≤ d1 ∧ d1 < 8 ∧ ¬ 1 ≤ d2 ∧ dotB (d1, d2) = false) ∨ (0 ≤ d1 ∧ d1 < 8 ∧ 1 ≤ d2 ∧ ¬ d2 ≤ 1000000 ∧ dotB (d1, d2) = false) ∨ (0 ≤ d1 ∧ d1 < 8 ∧ 1 ≤ d2 ∧ d2 ≤ 1000000 ∧ dotB (d1, d2) = true) := by
  have hn : ¬ ((0 ≤ d1 ∧ d1 < 8) ∧ 1 ≤ d2 ∧ d2 ≤ 1000000) → dotB (d1, d2) = false := fun h => by
    rw [← Bool.not_eq_true, dotB_iff]
    exact h
  by_cases h1 : 0 ≤ d1
  · by_cases h2 : d1 < 8
    · by_cases h3 : 1 ≤ d2
      · by_cases h4 : d2 ≤ 1000000
        · exact .inr (.inr (.inr (.inr ⟨h1, h2, h3, h4, dotB_iff.2 ⟨⟨h1, h2⟩, h3, h4⟩⟩)))
        · exact .inr (.inr (.inr (.inl ⟨h1, h2, h3, h4, hn (by omega)⟩)))
      · exact .inr (.inr (.inl ⟨h1, h2, h3, hn (by omega)⟩))
    · exact .inr (.inl ⟨h1, h2, hn (by omega)⟩)
  · exact .inl ⟨h1, hn (by omega)⟩
theorem put_ways5 {b x : Bg} {k : Nat → Int} {d : En} {t : ByteArray} {e : Int} (h : putBR b k d t = (x, e)) : (mayB b = false ∧ x = noB ∧ e = 1) ∨ (mayB b = true ∧ mayV k = false ∧ x = noB ∧ e = 1) ∨ (mayB b = true ∧ mayV k = true ∧ dotB d = false ∧ x = noB ∧ e = 1) ∨ (mayB b = true ∧ mayV k = true ∧ dotB d = true ∧ hasV b.k d = true ∧ x = noB ∧ e = 1) ∨ (mayB b = true ∧ mayV k = true ∧ dotB d = true ∧ hasV b.k d = false ∧ ¬ t.size ≤ 64 ∧ x = noB ∧ e = 1) ∨ (mayB b = true ∧ mayV k = true ∧ dotB d = true ∧ hasV b.k d = false ∧ t.size ≤ 64 ∧ ¬ (putB b k d t).v.length ≤ 32 ∧ x = noB ∧ e = 5) ∨ (mayB b = true ∧ mayV k = true ∧ dotB d = true ∧ hasV b.k d = false ∧ t.size ≤ 64 ∧ (putB b k d t).v.length ≤ 32 ∧ x = putB b k d t ∧ e = 0) := by
  unfold putBR at h
  by_cases hc : mayB b = true ∧ mayV k = true ∧ dotB d = true ∧ hasV b.k d = false ∧ t.size ≤ 64
  · rw [if_pos hc] at h
    obtain ⟨c1, c2, c3, c4, c5⟩ := hc
    split at h
    · obtain ⟨k1, k2⟩ := Prod.mk.inj h
      exact .inr (.inr (.inr (.inr (.inr (.inr ⟨c1, c2, c3, c4, c5, by assumption, k1.symm, k2.symm⟩)))))
    · obtain ⟨k1, k2⟩ := Prod.mk.inj h
      exact .inr (.inr (.inr (.inr (.inr (.inl ⟨c1, c2, c3, c4, c5, by assumption, k1.symm, k2.symm⟩)))))
  · rw [if_neg hc] at h
    obtain ⟨k1, k2⟩ := Prod.mk.inj h
    cases c1 : mayB b with
    | false => exact .inl ⟨rfl, k1.symm, k2.symm⟩
    | true =>
      cases c2 : mayV k with
      | false => exact .inr (.inl ⟨rfl, rfl, k1.symm, k2.symm⟩)
      | true =>
        cases c3 : dotB d with
        | false => exact .inr (.inr (.inl ⟨rfl, rfl, rfl, k1.symm, k2.symm⟩))
        | true =>
          cases c4 : hasV b.k d with
          | true => exact .inr (.inr (.inr (.inl ⟨rfl, rfl, rfl, rfl, k1.symm, k2.symm⟩)))
          | false => exact .inr (.inr (.inr (.inr (.inl ⟨rfl, rfl, rfl, rfl, fun q => hc ⟨c1, c2, c3, c4, q⟩, k1.symm, k2.symm⟩))))
theorem vl_dot {y : Vl} {p : Nat → Value → Prop} (h : ∀ k u, (elemV.enc y)[k]? = some u → p k u) : ∀ k u, ([.int .i64 y.1.1, .int .i64 y.1.2] : List Value)[k]? = some u → p k u := fun k u hk => by
  refine h k u ?_
  match k, hk with
  | 0, hk => exact hk
  | 1, hk => exact hk
  | k + 2, hk => simp at hk
set_option maxHeartbeats 4000000 in
set_option maxRecDepth 100000 in
theorem bdot_d (d1 d2 : Int) : Does Try.prog 30 #[.agg #[.int .i64 d1, .int .i64 d2]] [] (.bool (dotB (d1, d2))) [] := by
  intro w H hp
  have HM0 := Lib.hid (mem_refl hp)
  clear hp
  go_enter Try.func30, Try.ntmps30
  refine wp_seq ?_
  refine wp_region_N [(0, 3), (1, 1)] (by kernel_rfl) ?_
  refine wpS_boxA (i := 0) (dd := 1) rfl (by rfl) rfl rfl HM0.out covS_nil rfl ?_
  rintro b3 W2 hm1 -
  have HM4 := Lib.hid hm1
  clear hm1
  simp only [Act.put, List.setIfInBounds_toArray, List.set_cons_succ, List.set_cons_zero]
  refine wpS_this [1] rfl (by kernel_rfl) (by simp only [pickL, nthL, List.cons_append, List.nil_append]; rfl) ?_
  repeat (go_big_quiet_step (fail))
  refine wpQuiet_nil ?_
  refine wpS_nil ?_
  refine then_normal ?_
  refine wp_seq ?_
  rcases dotB_ways d1 d2 with ⟨h1, hc⟩ | ⟨h1, h2, hc⟩ | ⟨h1, h2, h3, hc⟩ | ⟨h1, h2, h3, h4, hc⟩ | ⟨h1, h2, h3, h4, hc⟩
  · have g1 : decide (0 ≤ d1) = false := decide_eq_false h1
    replace hc := Lib.hid hc
    clear h1
    refine wp_region_N [(0, 1), (1, 1), (2, 1), (3, 1), (4, 1), (5, 1), (6, 1), (7, 1), (8, 1), (9, 1), (10, 1), (11, 1), (12, 1), (13, 1), (14, 1), (15, 1), (16, 1), (17, 1), (18, 1)] (by kernel_rfl) ?_
    have Cb1 := Mem.cell HM4.out 0 rfl
    refine wpS_this [0, 1, 2, 3, 4, 5, 6, 7, 8, 9, 10, 11, 12, 13, 14, 15, 16, 17, 18] rfl (by kernel_rfl) (by simp only [pickL, nthL, List.cons_append, List.nil_append]; rfl) ?_
    repeat (go_big_quiet_step (fail))
    refine wpQuiet_nil ?_
    clear Cb1
    refine wpS_nil ?_
    refine then_normal ?_
    refine wp_ret ?_
    refine bodyPost_ret (results_tmp rfl _ _ _) rfl ?_
    rw [hc.out]
    exact does_ret (Mem.only (M := []) HM4.out [] rfl) rfl rfl
  · have g1 : decide (0 ≤ d1) = true := decide_eq_true h1
    have g2 : decide (d1 < 8) = false := decide_eq_false h2
    replace hc := Lib.hid hc
    clear h1 h2
    refine wp_region_N [(0, 1), (1, 1), (2, 1), (3, 1), (4, 1), (5, 1), (6, 1), (7, 1), (8, 1), (9, 1), (10, 1), (11, 1), (12, 1), (13, 1), (14, 1), (15, 1), (16, 1), (17, 1), (18, 1)] (by kernel_rfl) ?_
    have Cb1 := Mem.cell HM4.out 0 rfl
    refine wpS_this [0, 1, 2, 3, 4, 5, 6, 7, 8, 9, 10, 11, 12, 13, 14, 15, 16, 17, 18] rfl (by kernel_rfl) (by simp only [pickL, nthL, List.cons_append, List.nil_append]; rfl) ?_
    repeat (go_big_quiet_step (fail))
    refine wpQuiet_nil ?_
    clear Cb1
    refine wpS_nil ?_
    refine then_normal ?_
    refine wp_ret ?_
    refine bodyPost_ret (results_tmp rfl _ _ _) rfl ?_
    rw [hc.out]
    exact does_ret (Mem.only (M := []) HM4.out [] rfl) rfl rfl
  · have g1 : decide (0 ≤ d1) = true := decide_eq_true h1
    have g2 : decide (d1 < 8) = true := decide_eq_true h2
    have g3 : decide (1 ≤ d2) = false := decide_eq_false h3
    replace hc := Lib.hid hc
    clear h1 h2 h3
    refine wp_region_N [(0, 1), (1, 1), (2, 1), (3, 1), (4, 1), (5, 1), (6, 1), (7, 1), (8, 1), (9, 1), (10, 1), (11, 1), (12, 1), (13, 1), (14, 1), (15, 1), (16, 1), (17, 1), (18, 1)] (by kernel_rfl) ?_
    have Cb1 := Mem.cell HM4.out 0 rfl
    refine wpS_this [0, 1, 2, 3, 4, 5, 6, 7, 8, 9, 10, 11, 12, 13, 14, 15, 16, 17, 18] rfl (by kernel_rfl) (by simp only [pickL, nthL, List.cons_append, List.nil_append]; rfl) ?_
    repeat (go_big_quiet_step (fail))
    refine wpQuiet_nil ?_
    clear Cb1
    refine wpS_nil ?_
    refine then_normal ?_
    refine wp_ret ?_
    refine bodyPost_ret (results_tmp rfl _ _ _) rfl ?_
    rw [hc.out]
    exact does_ret (Mem.only (M := []) HM4.out [] rfl) rfl rfl
  · have g1 : decide (0 ≤ d1) = true := decide_eq_true h1
    have g2 : decide (d1 < 8) = true := decide_eq_true h2
    have g3 : decide (1 ≤ d2) = true := decide_eq_true h3
    have g4 : decide (d2 ≤ 1000000) = false := decide_eq_false h4
    replace hc := Lib.hid hc
    clear h1 h2 h3 h4
    refine wp_region_N [(0, 1), (1, 1), (2, 1), (3, 1), (4, 1), (5, 1), (6, 1), (7, 1), (8, 1), (9, 1), (10, 1), (11, 1), (12, 1), (13, 1), (14, 1), (15, 1), (16, 1), (17, 1), (18, 1)] (by kernel_rfl) ?_
    have Cb1 := Mem.cell HM4.out 0 rfl
    refine wpS_this [0, 1, 2, 3, 4, 5, 6, 7, 8, 9, 10, 11, 12, 13, 14, 15, 16, 17, 18] rfl (by kernel_rfl) (by simp only [pickL, nthL, List.cons_append, List.nil_append]; rfl) ?_
    repeat (go_big_quiet_step (fail))
    refine wpQuiet_nil ?_
    clear Cb1
    refine wpS_nil ?_
    refine then_normal ?_
    refine wp_ret ?_
    refine bodyPost_ret (results_tmp rfl _ _ _) rfl ?_
    rw [hc.out]
    exact does_ret (Mem.only (M := []) HM4.out [] rfl) rfl rfl
  · have g1 : decide (0 ≤ d1) = true := decide_eq_true h1
    have g2 : decide (d1 < 8) = true := decide_eq_true h2
    have g3 : decide (1 ≤ d2) = true := decide_eq_true h3
    have g4 : decide (d2 ≤ 1000000) = true := decide_eq_true h4
    replace hc := Lib.hid hc
    clear h1 h2 h3 h4
    refine wp_region_N [(0, 1), (1, 1), (2, 1), (3, 1), (4, 1), (5, 1), (6, 1), (7, 1), (8, 1), (9, 1), (10, 1), (11, 1), (12, 1), (13, 1), (14, 1), (15, 1), (16, 1), (17, 1), (18, 1)] (by kernel_rfl) ?_
    have Cb1 := Mem.cell HM4.out 0 rfl
    refine wpS_this [0, 1, 2, 3, 4, 5, 6, 7, 8, 9, 10, 11, 12, 13, 14, 15, 16, 17, 18] rfl (by kernel_rfl) (by simp only [pickL, nthL, List.cons_append, List.nil_append]; rfl) ?_
    repeat (go_big_quiet_step (fail))
    refine wpQuiet_nil ?_
    clear Cb1
    refine wpS_nil ?_
    refine then_normal ?_
    refine wp_ret ?_
    refine bodyPost_ret (results_tmp rfl _ _ _) rfl ?_
    rw [hc.out]
    exact does_ret (Mem.only (M := []) HM4.out [] rfl) rfl rfl

set_option maxHeartbeats 4000000 in
set_option maxRecDepth 100000 in
theorem bjoin1_d (R : At) (c : Nat) (sb : Value) (b : Bg) (hb : Reads elemV R sb b.v) (lb : b.v.length ≤ 4398046510976) (hs : Srt b.v) (y : Vl) : Does Try.prog 22 #[vlV y, .pointer (some ⟨c, 0, none⟩)] [boxT c (.cells (bgC b.k (sb)).toArray 27 (0, 0)), R] (.bool (heldL b.v y.1 || !hasV b.k y.1)) [boxT c (.cells (bgC b.k (sb)).toArray 27 (0, 0)), R] := by
  intro w H hp
  have HM0 := Lib.hid (mem_refl hp)
  clear hp
  go_enter Try.func22, Try.ntmps22
  refine wp_seq ?_
  refine wp_region_N [(0, 3), (1, 1)] (by kernel_rfl) ?_
  refine wpS_boxA (i := 0) (dd := 2) rfl (by rfl) rfl rfl HM0.out covS_nil rfl ?_
  rintro b3 W2 hm1 -
  have HM4 := Lib.hid hm1
  clear hm1
  simp only [Act.put, List.setIfInBounds_toArray, List.set_cons_succ, List.set_cons_zero]
  refine wpS_this [1] rfl (by kernel_rfl) (by simp only [pickL, nthL, List.cons_append, List.nil_append]; rfl) ?_
  repeat (go_big_quiet_step (fail))
  refine wpQuiet_nil ?_
  refine wpS_nil ?_
  refine then_normal ?_
  refine wp_seq ?_
  obtain ⟨z, hz'⟩ := bool_letter (heldL b.v y.1 || !hasV b.k y.1)
  rw [hz']
  obtain ⟨q, hq'⟩ := bool_letter (hasV b.k y.1)
  have hq := Lib.hid hq'
  clear hq'
  cases q
  · have hc : Hid (z = true) := Lib.hid (by rw [← hz', hq.out]; simp)
    clear hz'
    refine wp_region_N [(0, 1), (1, 1), (2, 1), (3, 1), (4, 3), (5, 1), (6, 1), (7, 1), (8, 1), (9, 1), (10, 1), (11, 3), (12, 1), (13, 1)] (by kernel_rfl) ?_
    refine wpS_this [0] rfl (by kernel_rfl) (by simp only [pickL, nthL, List.cons_append, List.nil_append]; rfl) ?_
    repeat (go_big_quiet_step (fail))
    refine wpQuiet_nil ?_
    refine wpS_loadA (i := 1) (d := some 5) (cells := vcC (b.k)) rfl (by rfl) rfl rfl (HM4.out.part 1 rfl (bgC_vc)) Try.underlying24 rfl (by kernel_rfl) rfl ?_
    simp only [Act.put, List.setIfInBounds_toArray, List.set_cons_succ, List.set_cons_zero]
    have Cb2 := Mem.cell HM4.out 0 rfl
    refine wpS_this [2, 3] rfl (by kernel_rfl) (by simp only [pickL, nthL, List.cons_append, List.nil_append]; rfl) ?_
    repeat (go_big_quiet_step (fail))
    refine wpQuiet_nil ?_
    clear Cb2
    refine wpS_does2 (i := 4) (d := some 8) (rem := [_, _, _]) (out := [_, _, _]) rfl (by rfl) rfl Try.call14 (chas_d b.k y.1.1 y.1.2) rfl rfl HM4.out [] rfl covS_nil rfl rfl ?_
    rintro W6 hm5 -
    rw [show hasV b.k (y.1.1, y.1.2) = _ from hq.out]
    have HM7 := Lib.hid hm5
    clear hm5
    simp only [Act.put, List.setIfInBounds_toArray, List.set_cons_succ, List.set_cons_zero]
    refine wpS_this [5, 6, 7] rfl (by kernel_rfl) (by simp only [pickL, nthL, List.cons_append, List.nil_append]; rfl) ?_
    repeat (go_big_quiet_step (fail))
    refine wpQuiet_nil ?_
    refine wpS_skip (i := 8) (d := some 12) rfl (by rfl) rfl ?_
    simp only [Act.put, List.setIfInBounds_toArray, List.set_cons_succ, List.set_cons_zero]
    have Cb2 := Mem.cell HM7.out 0 rfl
    refine wpS_this [9, 10] rfl (by kernel_rfl) (by simp only [pickL, nthL, List.cons_append, List.nil_append]; rfl) ?_
    repeat (go_big_quiet_step (fail))
    refine wpQuiet_nil ?_
    clear Cb2
    refine wpS_skip (i := 11) (d := some 15) rfl (by rfl) rfl ?_
    simp only [Act.put, List.setIfInBounds_toArray, List.set_cons_succ, List.set_cons_zero]
    refine wpS_this [12, 13] rfl (by kernel_rfl) (by simp only [pickL, nthL, List.cons_append, List.nil_append]; rfl) ?_
    repeat (go_big_quiet_step (fail))
    refine wpQuiet_nil ?_
    refine wpS_nil ?_
    refine then_normal ?_
    refine wp_ret ?_
    refine bodyPost_ret (results_tmp rfl _ _ _) rfl ?_
    rw [hc.out]
    exact does_ret (Mem.only (M := [_, _]) HM7.out [1, 1] rfl) rfl rfl
  · have hc : Hid (z = heldL b.v y.1) := Lib.hid (by rw [← hz', hq.out]; simp)
    clear hz'
    refine wp_region_N [(0, 1), (1, 1), (2, 1), (3, 1), (4, 3), (5, 1), (6, 1), (7, 1), (8, 1), (9, 1), (10, 1), (11, 3), (12, 1), (13, 1)] (by kernel_rfl) ?_
    refine wpS_this [0] rfl (by kernel_rfl) (by simp only [pickL, nthL, List.cons_append, List.nil_append]; rfl) ?_
    repeat (go_big_quiet_step (fail))
    refine wpQuiet_nil ?_
    refine wpS_loadA (i := 1) (d := some 5) (cells := vcC (b.k)) rfl (by rfl) rfl rfl (HM4.out.part 1 rfl (bgC_vc)) Try.underlying24 rfl (by kernel_rfl) rfl ?_
    simp only [Act.put, List.setIfInBounds_toArray, List.set_cons_succ, List.set_cons_zero]
    have Cb2 := Mem.cell HM4.out 0 rfl
    refine wpS_this [2, 3] rfl (by kernel_rfl) (by simp only [pickL, nthL, List.cons_append, List.nil_append]; rfl) ?_
    repeat (go_big_quiet_step (fail))
    refine wpQuiet_nil ?_
    clear Cb2
    refine wpS_does2 (i := 4) (d := some 8) (rem := [_, _, _]) (out := [_, _, _]) rfl (by rfl) rfl Try.call14 (chas_d b.k y.1.1 y.1.2) rfl rfl HM4.out [] rfl covS_nil rfl rfl ?_
    rintro W9 hm8 -
    rw [show hasV b.k (y.1.1, y.1.2) = _ from hq.out]
    have HM10 := Lib.hid hm8
    clear hm8
    simp only [Act.put, List.setIfInBounds_toArray, List.set_cons_succ, List.set_cons_zero]
    refine wpS_this [5, 6, 7] rfl (by kernel_rfl) (by simp only [pickL, nthL, List.cons_append, List.nil_append]; rfl) ?_
    repeat (go_big_quiet_step (fail))
    refine wpQuiet_nil ?_
    refine wpS_load1 (i := 8) (d := some 12) (u := sb) rfl (by rfl) rfl rfl (HM10.out.part1 1 rfl bgC_sl) Try.underlying25 rfl rfl ?_
    simp only [Act.put, List.setIfInBounds_toArray, List.set_cons_succ, List.set_cons_zero]
    have Cb2 := Mem.cell HM10.out 0 rfl
    refine wpS_this [9, 10] rfl (by kernel_rfl) (by simp only [pickL, nthL, List.cons_append, List.nil_append]; rfl) ?_
    repeat (go_big_quiet_step (fail))
    refine wpQuiet_nil ?_
    clear Cb2
    refine wpS_does2 (i := 11) (d := some 15) (rem := [_, _]) (out := [_, _, _]) rfl (by rfl) rfl Try.call23 (bheld_d R _ b.v (fun W H h => rowAt_src (hb W H h)) hs lb y.1.1 y.1.2) rfl rfl HM10.out [2] rfl covS_nil rfl rfl ?_
    rintro W12 hm11 -
    have HM13 := Lib.hid hm11
    clear hm11
    simp only [Act.put, List.setIfInBounds_toArray, List.set_cons_succ, List.set_cons_zero]
    refine wpS_this [12, 13] rfl (by kernel_rfl) (by simp only [pickL, nthL, List.cons_append, List.nil_append]; rfl) ?_
    repeat (go_big_quiet_step (fail))
    refine wpQuiet_nil ?_
    refine wpS_nil ?_
    refine then_normal ?_
    refine wp_ret ?_
    refine bodyPost_ret (results_tmp rfl _ _ _) rfl ?_
    rw [hc.out]
    exact does_ret (Mem.only (M := [_, _]) HM13.out [2, 0] rfl) rfl rfl

set_option maxHeartbeats 4000000 in
set_option maxRecDepth 100000 in
theorem bput1_d (R : At) (c : Nat) (k : Nat → Int) (y : Vl) : Does Try.prog 31 #[vlV y, .pointer (some ⟨c, 0, none⟩)] [boxT c (.cells (vcC k).toArray 24 (0, 0)), R] (.bool (!hasV k y.1)) [boxT c (.cells (vcC k).toArray 24 (0, 0)), R] := by
  intro w H hp
  have HM0 := Lib.hid (mem_refl hp)
  clear hp
  go_enter Try.func31, Try.ntmps31
  refine wp_seq ?_
  refine wp_region_N [(0, 3), (1, 1)] (by kernel_rfl) ?_
  refine wpS_boxA (i := 0) (dd := 2) rfl (by rfl) rfl rfl HM0.out covS_nil rfl ?_
  rintro b3 W2 hm1 -
  have HM4 := Lib.hid hm1
  clear hm1
  simp only [Act.put, List.setIfInBounds_toArray, List.set_cons_succ, List.set_cons_zero]
  refine wpS_this [1] rfl (by kernel_rfl) (by simp only [pickL, nthL, List.cons_append, List.nil_append]; rfl) ?_
  repeat (go_big_quiet_step (fail))
  refine wpQuiet_nil ?_
  refine wpS_nil ?_
  refine then_normal ?_
  refine wp_seq ?_
  refine wp_region_N [(0, 1), (1, 1), (2, 1), (3, 3), (4, 1), (5, 1)] (by kernel_rfl) ?_
  refine wpS_loadA (i := 0) (d := some 4) (cells := vcC (k)) rfl (by rfl) rfl rfl (HM4.out.cells0 1 rfl) Try.underlying24 rfl (by kernel_rfl) rfl ?_
  simp only [Act.put, List.setIfInBounds_toArray, List.set_cons_succ, List.set_cons_zero]
  have Cb2 := Mem.cell HM4.out 0 rfl
  refine wpS_this [1, 2] rfl (by kernel_rfl) (by simp only [pickL, nthL, List.cons_append, List.nil_append]; rfl) ?_
  repeat (go_big_quiet_step (fail))
  refine wpQuiet_nil ?_
  clear Cb2
  refine wpS_does2 (i := 3) (d := some 7) (rem := [_, _, _]) (out := [_, _, _]) rfl (by rfl) rfl Try.call14 (chas_d k y.1.1 y.1.2) rfl rfl HM4.out [] rfl covS_nil rfl rfl ?_
  rintro W6 hm5 -
  have HM7 := Lib.hid hm5
  clear hm5
  simp only [Act.put, List.setIfInBounds_toArray, List.set_cons_succ, List.set_cons_zero]
  refine wpS_this [4, 5] rfl (by kernel_rfl) (by simp only [pickL, nthL, List.cons_append, List.nil_append]; rfl) ?_
  repeat (go_big_quiet_step (fail))
  refine wpQuiet_nil ?_
  refine wpS_nil ?_
  refine then_normal ?_
  refine wp_ret ?_
  refine bodyPost_ret (results_tmp rfl _ _ _) rfl ?_
  exact does_ret (Mem.only (M := [_, _]) HM7.out [1, 1] rfl) rfl rfl

set_option maxHeartbeats 4000000 in
set_option maxRecDepth 100000 in
theorem bmade_d (k : Nat → Int) (p : Option Addr) (n c : Nat) : Does Try.prog 25 #[vV k, .slice p n c] [] (if n ≤ 32 then .tuple #[bgV k (.slice p n c), .int .i64 0] else .tuple #[bgV noB.k (.slice none 0 0), .int .i64 5]) [] := by
  intro w H hp
  have HM0 := Lib.hid (mem_refl hp)
  clear hp
  go_enter Try.func25, Try.ntmps25
  refine wp_seq ?_
  refine wp_region_N [(0, 3), (1, 3), (2, 1)] (by kernel_rfl) ?_
  refine wpS_boxA (i := 0) (dd := 2) rfl (by rfl) rfl rfl HM0.out covS_nil rfl ?_
  rintro b3 W2 hm1 -
  have HM4 := Lib.hid hm1
  clear hm1
  simp only [Act.put, List.setIfInBounds_toArray, List.set_cons_succ, List.set_cons_zero]
  refine wpS_alloc (i := 1) (dd := 4) (z := bgV noB.k (.slice none 0 0)) (cs := (bgC noB.k (.slice none 0 0)).toArray) rfl (by rfl) rfl (by kernel_rfl) rfl HM4.out covS_nil rfl ?_
  rintro b7 W6 hm5 -
  have HM8 := Lib.hid hm5
  clear hm5
  simp only [Act.put, List.setIfInBounds_toArray, List.set_cons_succ, List.set_cons_zero]
  refine wpS_this [2] rfl (by kernel_rfl) (by simp only [pickL, nthL, List.cons_append, List.nil_append]; rfl) ?_
  repeat (go_big_quiet_step (fail))
  refine wpQuiet_nil ?_
  refine wpS_nil ?_
  refine then_normal ?_
  refine wp_seq ?_
  refine wp_seq ?_
  by_cases h1 : n ≤ 32
  · have g1 : decide ((32 : Int) < (n : Int)) = false := decide_eq_false (by omega)
    have g1' : decide (32 < n) = false := decide_eq_false (by omega)
    rw [if_pos h1]
    refine wp_region_N [(0, 1), (1, 1), (2, 1)] (by kernel_rfl) ?_
    refine wpS_this [0, 1, 2] rfl (by kernel_rfl) (by simp only [pickL, nthL, List.cons_append, List.nil_append]; rfl) ?_
    repeat (go_big_quiet_step (fail))
    refine wpQuiet_nil ?_
    refine wpS_nil ?_
    refine then_normal ?_
    refine wp_cond_false rfl ?_
    refine wp_skip ?_
    refine then_normal ?_
    refine wp_seq ?_
    refine wp_region_N [(0, 1), (1, 1), (2, 1), (3, 3), (4, 1)] (by kernel_rfl) ?_
    refine wpS_loadA (i := 0) (d := some 10) (cells := vcC (k)) rfl (by rfl) rfl rfl (HM8.out.cells0 1 rfl) Try.underlying24 rfl (by kernel_rfl) rfl ?_
    simp only [Act.put, List.setIfInBounds_toArray, List.set_cons_succ, List.set_cons_zero]
    refine wpS_this [1] rfl (by kernel_rfl) (by simp only [pickL, nthL, List.cons_append, List.nil_append]; rfl) ?_
    repeat (go_big_quiet_step (fail))
    refine wpQuiet_nil ?_
    refine wpS_read (i := 2) (d := some 12) (v := bgV k (.slice p n c)) rfl (by rfl) (by kernel_rfl) rfl ?_
    simp only [Act.put, List.setIfInBounds_toArray, List.set_cons_succ, List.set_cons_zero]
    refine wpS_storeA (i := 3) (L2 := [_]) (cs' := bgC (k) (.slice p n c)) rfl (by rfl) rfl rfl rfl (by kernel_rfl) (bgC_one _ _ _) HM8.out 0 rfl rfl (by kernel_rfl) (by kernel_rfl) covS_nil rfl ?_
    rintro W10 hm9 -
    have HM11 := Lib.hid hm9
    clear hm9
    refine wpS_this [4] rfl (by kernel_rfl) (by simp only [pickL, nthL, List.cons_append, List.nil_append]; rfl) ?_
    repeat (go_big_quiet_step (fail))
    refine wpQuiet_nil ?_
    refine wpS_nil ?_
    refine then_normal ?_
    refine wp_ret ?_
    refine ret_cell_tmp rfl HM11.out 0 rfl rfl Try.underlying27 rfl (by kernel_rfl) rfl rfl ?_
    exact does_ret (Mem.only (M := []) HM11.out [] rfl) rfl rfl
  · have g1 : decide ((32 : Int) < (n : Int)) = true := decide_eq_true (by omega)
    have g1' : decide (32 < n) = true := decide_eq_true (by omega)
    rw [if_neg h1]
    refine wp_region_N [(0, 1), (1, 1), (2, 1)] (by kernel_rfl) ?_
    refine wpS_this [0, 1, 2] rfl (by kernel_rfl) (by simp only [pickL, nthL, List.cons_append, List.nil_append]; rfl) ?_
    repeat (go_big_quiet_step (fail))
    refine wpQuiet_nil ?_
    refine wpS_nil ?_
    refine then_normal ?_
    refine wp_cond_true rfl ?_
    refine wp_seq ?_
    refine wp_region_N [(0, 1), (1, 3), (2, 1)] (by kernel_rfl) ?_
    refine wpS_this [0] rfl (by kernel_rfl) (by simp only [pickL, nthL, List.cons_append, List.nil_append]; rfl) ?_
    repeat (go_big_quiet_step (fail))
    refine wpQuiet_nil ?_
    refine wpS_storeA (i := 1) (L2 := [_]) (cs' := bgC (noB.k) (.slice none 0 0)) rfl (by rfl) rfl rfl rfl (by kernel_rfl) (bgC_one _ _ _) HM8.out 0 rfl rfl (by kernel_rfl) (by kernel_rfl) covS_nil rfl ?_
    rintro W13 hm12 -
    have HM14 := Lib.hid hm12
    clear hm12
    refine wpS_this [2] rfl (by kernel_rfl) (by simp only [pickL, nthL, List.cons_append, List.nil_append]; rfl) ?_
    repeat (go_big_quiet_step (fail))
    refine wpQuiet_nil ?_
    refine wpS_nil ?_
    refine then_normal ?_
    refine wp_ret ?_
    refine then_ret ?_
    refine ret_cell_tmp rfl HM14.out 0 rfl rfl Try.underlying27 rfl (by kernel_rfl) rfl rfl ?_
    exact does_ret (Mem.only (M := []) HM14.out [] rfl) rfl rfl

end Go.Proofs.Ytneeidedadlioaa
