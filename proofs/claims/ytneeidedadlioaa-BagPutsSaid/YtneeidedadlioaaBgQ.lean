/- Bags: BagPuts. -/
import Derived.Test.YtneeidedadlioaaBgB
import Derived.Test.YtneeidedadlioaaBgT
namespace Go.Proofs.Ytneeidedadlioaa
open Go Go.RowKit Go.BigFrame

def heldV (l : List Vl) (y : Vl) : Bool := l.any fun x => decide (x = y)
theorem heldV_step {l : List Vl} {k : Nat} {x : Vl} (h : l[k]? = some x) (y : Vl) : heldV (l.take (k + 1)) y = (heldV (l.take k) y || decide (x = y)) := by
  unfold heldV
  rw [List.take_add_one, h, List.any_append]
  simp
theorem heldV_iff {l : List Vl} {y : Vl} : heldV l y = true ↔ y ∈ l := by
  unfold heldV
  rw [List.any_eq_true]
  exact ⟨fun ⟨x, h, e⟩ => by rw [← of_decide_eq_true e]; exact h, fun h => ⟨y, h, decide_eq_true rfl⟩⟩
def leftN (k : Nat → Int) (l : List Vl) : Nat := (l.filter fun x => !hasV k x.1).length
theorem leftN_step {l : List Vl} {j : Nat} {x : Vl} (h : l[j]? = some x) (k : Nat → Int) : leftN k (l.take (j + 1)) = leftN k (l.take j) + (if hasV k x.1 = true then 0 else 1) := by
  unfold leftN
  rw [List.take_add_one, h, List.filter_append, List.length_append]
  cases hk : hasV k x.1 <;> simp [hk]
theorem leftN_le (k : Nat → Int) (l : List Vl) (j : Nat) : leftN k (l.take j) ≤ j := by
  unfold leftN
  refine Nat.le_trans (List.length_filter_le _ _) ?_
  rw [List.length_take]
  omega
theorem put_ways {a x : Bg} {k : Nat → Int} {d1 d2 : Int} {t : ByteArray} {e : Int} (h : putBR a k (d1, d2) t = (x, e)) :
    (e = 5 ∧ x = noB) ∨ (e = 1 ∧ x = noB ∧ mayB a = false) ∨ (e = 1 ∧ x = noB ∧ mayB a = true ∧ mayV k = false) ∨ (e = 1 ∧ x = noB ∧ mayB a = true ∧ mayV k = true ∧ nodeE d1 = false) ∨ (e = 1 ∧ x = noB ∧ mayB a = true ∧ mayV k = true ∧ nodeE d1 = true ∧ d2 < 1) ∨ (e = 1 ∧ x = noB ∧ mayB a = true ∧ mayV k = true ∧ nodeE d1 = true ∧ ¬ d2 < 1 ∧ 1000000 < d2) ∨ (e = 1 ∧ x = noB ∧ mayB a = true ∧ mayV k = true ∧ nodeE d1 = true ∧ ¬ d2 < 1 ∧ ¬ 1000000 < d2 ∧ hasV a.k (d1, d2) = true) ∨ (e = 1 ∧ x = noB ∧ mayB a = true ∧ mayV k = true ∧ nodeE d1 = true ∧ ¬ d2 < 1 ∧ ¬ 1000000 < d2 ∧ hasV a.k (d1, d2) = false ∧ 64 < t.size) ∨ (e = 0 ∧ x = putB a k (d1, d2) t ∧ MayB x ∧ MayB a ∧ dotB (d1, d2) = true ∧ hasV a.k (d1, d2) = false) := by
  by_cases hc : mayB a = true ∧ mayV k = true ∧ dotB (d1, d2) = true ∧ hasV a.k (d1, d2) = false ∧ t.size ≤ 64
  · obtain ⟨c1, c2, c3, c4, c5⟩ := hc
    have hb := mayB_iff.1 c1
    rcases put_of hb c2 c3 c4 c5 h with ⟨e0, ex, hx⟩ | ⟨e5, ex⟩
    · exact .inr (.inr (.inr (.inr (.inr (.inr (.inr (.inr ⟨e0, ex, hx, hb, c3, c4⟩)))))))
    · exact .inl ⟨e5, ex⟩
  · unfold putBR at h
    rw [if_neg hc] at h
    obtain ⟨h1, h2⟩ := Prod.mk.inj h
    subst h1 h2
    cases c1 : mayB a with
    | false => exact .inr (.inl ⟨rfl, rfl, rfl⟩)
    | true =>
      cases c2 : mayV k with
      | false => exact .inr (.inr (.inl ⟨rfl, rfl, rfl, rfl⟩))
      | true =>
        cases c3 : nodeE d1 with
        | false => exact .inr (.inr (.inr (.inl ⟨rfl, rfl, rfl, rfl, rfl⟩)))
        | true =>
          by_cases c4 : d2 < 1
          · exact .inr (.inr (.inr (.inr (.inl ⟨rfl, rfl, rfl, rfl, rfl, c4⟩))))
          · by_cases c5 : 1000000 < d2
            · exact .inr (.inr (.inr (.inr (.inr (.inl ⟨rfl, rfl, rfl, rfl, rfl, c4, c5⟩)))))
            · cases c6 : hasV a.k (d1, d2) with
              | true => exact .inr (.inr (.inr (.inr (.inr (.inr (.inl ⟨rfl, rfl, rfl, rfl, rfl, c4, c5, rfl⟩))))))
              | false =>
                by_cases c7 : 64 < t.size
                · exact .inr (.inr (.inr (.inr (.inr (.inr (.inr (.inl ⟨rfl, rfl, rfl, rfl, rfl, c4, c5, rfl, c7⟩)))))))
                · refine (hc ⟨c1, c2, ?_, c6, by omega⟩).elim
                  have := of_decide_eq_true c3
                  exact dotB_iff.2 ⟨this, by dsimp only; omega⟩
set_option maxHeartbeats 4000000 in
set_option maxRecDepth 100000 in
theorem bputsLaw_d (W0 : World) (va : Value) (a : Bg) (ha : SrcE elemV W0 va a.v) (la : a.v.length ≤ 4398046510976) (k : Nat → Int) (d1 d2 : Int) (t : ByteArray) : Does Try.prog 4 #[bgV a.k va, vV k, .agg #[.int .i64 d1, .int .i64 d2], .string t] [oldT W0] (.bool true) [oldT W0] := by
  intro w H hp
  have HM0 := Lib.hid (mem_refl hp)
  clear hp
  obtain ⟨pa, ca, rfl⟩ := row_form ha
  go_enter Try.func4, Try.ntmps4
  refine wp_seq ?_
  refine wp_region_N [(0, 3), (1, 3), (2, 3), (3, 1)] (by kernel_rfl) ?_
  refine wpS_boxA (i := 0) (dd := 4) rfl (by rfl) rfl rfl HM0.out covS_nil rfl ?_
  rintro b3 W2 hm1 -
  have HM4 := Lib.hid hm1
  clear hm1
  simp only [Act.put, List.setIfInBounds_toArray, List.set_cons_succ, List.set_cons_zero]
  refine wpS_boxA (i := 1) (dd := 5) rfl (by rfl) rfl rfl HM4.out covS_nil rfl ?_
  rintro b7 W6 hm5 -
  have HM8 := Lib.hid hm5
  clear hm5
  simp only [Act.put, List.setIfInBounds_toArray, List.set_cons_succ, List.set_cons_zero]
  refine wpS_boxA (i := 2) (dd := 6) rfl (by rfl) rfl rfl HM8.out covS_nil rfl ?_
  rintro b11 W10 hm9 -
  have HM12 := Lib.hid hm9
  clear hm9
  simp only [Act.put, List.setIfInBounds_toArray, List.set_cons_succ, List.set_cons_zero]
  refine wpS_this [3] rfl (by kernel_rfl) (by simp only [pickL, nthL, List.cons_append, List.nil_append]; rfl) ?_
  repeat (go_big_quiet_step (fail))
  refine wpQuiet_nil ?_
  refine wpS_nil ?_
  refine then_normal ?_
  refine wp_seq ?_
  refine wp_seq ?_
  obtain ⟨z, hz'⟩ := int_letter (heavyV a.v)
  have hz := Lib.hid hz'
  clear hz'
  rcases (show 0 < z ∨ (¬ 0 < z ∧ 300 < t.size) ∨ (¬ 0 < z ∧ ¬ 300 < t.size) from by omega) with h1 | ⟨h1, h2⟩ | ⟨h1, h2⟩
  · have gz := decide_eq_true h1
    replace h1 := Lib.hid h1
    refine wp_region_N [(0, 1), (1, 3), (2, 3), (3, 1), (4, 1), (5, 1), (6, 1), (7, 1), (8, 1)] (by kernel_rfl) ?_
    refine wpS_loadA (i := 0) (d := some 22) (cells := bgC (a.k) (.slice pa a.v.length ca)) rfl (by rfl) rfl rfl (HM12.out.part 2 rfl (bgC_all)) Try.underlying27 rfl (by kernel_rfl) rfl ?_
    simp only [Act.put, List.setIfInBounds_toArray, List.set_cons_succ, List.set_cons_zero]
    refine wpS_build1 elemB (i := 1) (dd := 23) (y := ⟨a.k, pa, a.v.length, ca⟩) rfl (by rfl) rfl rfl rfl (by decide) HM12.out covS_nil rfl ?_
    rintro b15 W16 hm17 -
    have HM18 := Lib.hid hm17
    clear hm17
    simp only [Act.put, List.setIfInBounds_toArray, List.set_cons_succ, List.set_cons_zero]
    refine wpS_does1 (i := 2) (d := some 24) (rem := [_, _, _]) (out := [_, _, _, _, _]) rfl (by rfl) rfl Try.call15 (Does.ofList (bheavy_d (listT [_, _]) _ ⟨a.k, pa, a.v.length, ca⟩ a.v (rL 0 rfl vRow) (rL 1 rfl (rOld ha)) rfl la)) rfl HM18.out [0, 3] rfl covS_nil rfl rfl ?_
    rintro W20 hm19 -
    rw [hz.out]
    have HM21 := Lib.hid hm19
    clear hm19
    simp only [Act.put, List.setIfInBounds_toArray, List.set_cons_succ, List.set_cons_zero]
    refine wpS_this [3, 4, 5, 6, 7, 8] rfl (by kernel_rfl) (by simp only [pickL, nthL, List.cons_append, List.nil_append]; rfl) ?_
    repeat (go_big_quiet_step (fail))
    refine wpQuiet_nil ?_
    refine wpS_nil ?_
    refine then_normal ?_
    refine wp_cond_true rfl ?_
    refine wp_seq ?_
    refine wp_region_N [(0, 3), (1, 1)] (by kernel_rfl) ?_
    refine wpS_does0 (i := 0) (d := some 31) (rem := [_, _, _, _, _]) (out := [_, _, _, _, _]) rfl (by rfl) rfl Try.call8 (bawake_d)  HM21.out [] rfl covS_nil rfl rfl ?_
    rintro W23 hm22 -
    have HM24 := Lib.hid hm22
    clear hm22
    simp only [Act.put, List.setIfInBounds_toArray, List.set_cons_succ, List.set_cons_zero]
    refine wpS_this [1] rfl (by kernel_rfl) (by simp only [pickL, nthL, List.cons_append, List.nil_append]; rfl) ?_
    repeat (go_big_quiet_step (fail))
    refine wpQuiet_nil ?_
    refine wpS_nil ?_
    refine then_normal ?_
    refine wp_ret ?_
    refine then_ret ?_
    refine bodyPost_ret (results_tmp rfl _ _ _) rfl ?_
    exact does_ret (Mem.only (M := [_]) HM24.out [1] rfl) rfl rfl
  · have gz := decide_eq_false h1
    have gt : decide ((300 : Int) < (t.size : Int)) = true := decide_eq_true (by omega)
    have gt' := decide_eq_true h2
    replace h1 := Lib.hid h1
    replace h2 := Lib.hid h2
    refine wp_region_N [(0, 1), (1, 3), (2, 3), (3, 1), (4, 1), (5, 1), (6, 1), (7, 1), (8, 1)] (by kernel_rfl) ?_
    refine wpS_loadA (i := 0) (d := some 22) (cells := bgC (a.k) (.slice pa a.v.length ca)) rfl (by rfl) rfl rfl (HM12.out.part 2 rfl (bgC_all)) Try.underlying27 rfl (by kernel_rfl) rfl ?_
    simp only [Act.put, List.setIfInBounds_toArray, List.set_cons_succ, List.set_cons_zero]
    refine wpS_build1 elemB (i := 1) (dd := 23) (y := ⟨a.k, pa, a.v.length, ca⟩) rfl (by rfl) rfl rfl rfl (by decide) HM12.out covS_nil rfl ?_
    rintro b27 W28 hm29 -
    have HM30 := Lib.hid hm29
    clear hm29
    simp only [Act.put, List.setIfInBounds_toArray, List.set_cons_succ, List.set_cons_zero]
    refine wpS_does1 (i := 2) (d := some 24) (rem := [_, _, _]) (out := [_, _, _, _, _]) rfl (by rfl) rfl Try.call15 (Does.ofList (bheavy_d (listT [_, _]) _ ⟨a.k, pa, a.v.length, ca⟩ a.v (rL 0 rfl vRow) (rL 1 rfl (rOld ha)) rfl la)) rfl HM30.out [0, 3] rfl covS_nil rfl rfl ?_
    rintro W32 hm31 -
    rw [hz.out]
    have HM33 := Lib.hid hm31
    clear hm31
    simp only [Act.put, List.setIfInBounds_toArray, List.set_cons_succ, List.set_cons_zero]
    refine wpS_this [3, 4, 5, 6, 7, 8] rfl (by kernel_rfl) (by simp only [pickL, nthL, List.cons_append, List.nil_append]; rfl) ?_
    repeat (go_big_quiet_step (fail))
    refine wpQuiet_nil ?_
    refine wpS_nil ?_
    refine then_normal ?_
    refine wp_cond_true rfl ?_
    refine wp_seq ?_
    refine wp_region_N [(0, 3), (1, 1)] (by kernel_rfl) ?_
    refine wpS_does0 (i := 0) (d := some 31) (rem := [_, _, _, _, _]) (out := [_, _, _, _, _]) rfl (by rfl) rfl Try.call8 (bawake_d)  HM33.out [] rfl covS_nil rfl rfl ?_
    rintro W35 hm34 -
    have HM36 := Lib.hid hm34
    clear hm34
    simp only [Act.put, List.setIfInBounds_toArray, List.set_cons_succ, List.set_cons_zero]
    refine wpS_this [1] rfl (by kernel_rfl) (by simp only [pickL, nthL, List.cons_append, List.nil_append]; rfl) ?_
    repeat (go_big_quiet_step (fail))
    refine wpQuiet_nil ?_
    refine wpS_nil ?_
    refine then_normal ?_
    refine wp_ret ?_
    refine then_ret ?_
    refine bodyPost_ret (results_tmp rfl _ _ _) rfl ?_
    exact does_ret (Mem.only (M := [_]) HM36.out [1] rfl) rfl rfl
  · have gz := decide_eq_false h1
    have gt : decide ((300 : Int) < (t.size : Int)) = false := decide_eq_false (by omega)
    have gt' := decide_eq_false h2
    replace h1 := Lib.hid h1
    refine wp_region_N [(0, 1), (1, 3), (2, 3), (3, 1), (4, 1), (5, 1), (6, 1), (7, 1), (8, 1)] (by kernel_rfl) ?_
    refine wpS_loadA (i := 0) (d := some 22) (cells := bgC (a.k) (.slice pa a.v.length ca)) rfl (by rfl) rfl rfl (HM12.out.part 2 rfl (bgC_all)) Try.underlying27 rfl (by kernel_rfl) rfl ?_
    simp only [Act.put, List.setIfInBounds_toArray, List.set_cons_succ, List.set_cons_zero]
    refine wpS_build1 elemB (i := 1) (dd := 23) (y := ⟨a.k, pa, a.v.length, ca⟩) rfl (by rfl) rfl rfl rfl (by decide) HM12.out covS_nil rfl ?_
    rintro b39 W40 hm41 -
    have HM42 := Lib.hid hm41
    clear hm41
    simp only [Act.put, List.setIfInBounds_toArray, List.set_cons_succ, List.set_cons_zero]
    refine wpS_does1 (i := 2) (d := some 24) (rem := [_, _, _]) (out := [_, _, _, _, _]) rfl (by rfl) rfl Try.call15 (Does.ofList (bheavy_d (listT [_, _]) _ ⟨a.k, pa, a.v.length, ca⟩ a.v (rL 0 rfl vRow) (rL 1 rfl (rOld ha)) rfl la)) rfl HM42.out [0, 3] rfl covS_nil rfl rfl ?_
    rintro W44 hm43 -
    rw [hz.out]
    have HM45 := Lib.hid hm43
    clear hm43
    simp only [Act.put, List.setIfInBounds_toArray, List.set_cons_succ, List.set_cons_zero]
    refine wpS_this [3, 4, 5, 6, 7, 8] rfl (by kernel_rfl) (by simp only [pickL, nthL, List.cons_append, List.nil_append]; rfl) ?_
    repeat (go_big_quiet_step (fail))
    refine wpQuiet_nil ?_
    refine wpS_nil ?_
    refine then_normal ?_
    refine wp_cond_false rfl ?_
    refine wp_skip ?_
    refine then_normal ?_
    refine wp_seq ?_
    obtain ⟨x, e, hx'⟩ : ∃ x e, putBR a k (d1, d2) t = (x, e) := ⟨_, _, rfl⟩
    have hx := Lib.hid hx'
    clear hx'
    refine wp_region_N [(0, 1), (1, 1), (2, 1), (3, 1), (4, 3), (5, 1), (6, 1), (7, 1), (8, 3), (9, 3), (10, 1)] (by kernel_rfl) ?_
    refine wpS_loadA (i := 0) (d := some 33) (cells := bgC (a.k) (.slice pa a.v.length ca)) rfl (by rfl) rfl rfl (HM45.out.part 4 rfl (bgC_all)) Try.underlying27 rfl (by kernel_rfl) rfl ?_
    simp only [Act.put, List.setIfInBounds_toArray, List.set_cons_succ, List.set_cons_zero]
    refine wpS_loadA (i := 1) (d := some 34) (cells := vcC (k)) rfl (by rfl) rfl rfl (HM45.out.cells0 3 rfl) Try.underlying24 rfl (by kernel_rfl) rfl ?_
    simp only [Act.put, List.setIfInBounds_toArray, List.set_cons_succ, List.set_cons_zero]
    have Cb6 := Mem.cell HM45.out 2 rfl
    refine wpS_this [2, 3] rfl (by kernel_rfl) (by simp only [pickL, nthL, List.cons_append, List.nil_append]; rfl) ?_
    repeat (go_big_quiet_step (fail))
    refine wpQuiet_nil ?_
    clear Cb6
    refine wpS_doesU4 (i := 4) (d := some 37) (rem := [_, _, _, _]) rfl (by rfl) rfl Try.call16 (bput_d (oldT W0) _ a (vOld ha) la k d1 d2 t x e hx.out) rfl rfl rfl rfl HM45.out [1] rfl covS_nil (fun _ => rfl) rfl ?_
    rintro u48 W47 hm46 -
    obtain ⟨px, cx, rfl, hm46q⟩ := Mem.bagE rfl hm46
    clear hm46
    have HM49 := Lib.hid hm46q
    clear hm46q
    simp only [Act.put, List.setIfInBounds_toArray, List.set_cons_succ, List.set_cons_zero]
    refine wpS_this [5, 6, 7] rfl (by kernel_rfl) (by simp only [pickL, nthL, List.cons_append, List.nil_append]; rfl) ?_
    repeat (go_big_quiet_step (fail))
    refine wpQuiet_nil ?_
    refine wpS_alloc (i := 8) (dd := 9) (z := bgV noB.k (.slice none 0 0)) (cs := (bgC noB.k (.slice none 0 0)).toArray) rfl (by rfl) rfl (by kernel_rfl) rfl HM49.out covS_nil rfl ?_
    rintro b52 W51 hm50 -
    have HM53 := Lib.hid hm50
    clear hm50
    simp only [Act.put, List.setIfInBounds_toArray, List.set_cons_succ, List.set_cons_zero]
    refine wpS_storeA (i := 9) (L2 := [_, _, _, _, _, _]) (cs' := bgC (x.k) (.slice px x.v.length cx)) rfl (by rfl) rfl rfl rfl (by kernel_rfl) (bgC_one _ _ _) HM53.out 0 rfl rfl (by kernel_rfl) (by kernel_rfl) covS_nil rfl ?_
    rintro W55 hm54 -
    have HM56 := Lib.hid hm54
    clear hm54
    refine wpS_this [10] rfl (by kernel_rfl) (by simp only [pickL, nthL, List.cons_append, List.nil_append]; rfl) ?_
    repeat (go_big_quiet_step (fail))
    refine wpQuiet_nil ?_
    refine wpS_nil ?_
    refine then_normal ?_
    refine wp_seq ?_
    refine wp_seq ?_
    rcases put_ways hx.out with ⟨rfl, hx0⟩ | ⟨rfl, hx0, hp1⟩ | ⟨rfl, hx0, hp1, hp2⟩ | ⟨rfl, hx0, hp1, hp2, hp3⟩ | ⟨rfl, hx0, hp1, hp2, hp3, h5⟩ | ⟨rfl, hx0, hp1, hp2, hp3, h5, h6⟩ | ⟨rfl, hx0, hp1, hp2, hp3, h5, h6, hp4⟩ | ⟨rfl, hx0, hp1, hp2, hp3, h5, h6, hp4, h7⟩ | ⟨rfl, hx0, hmx, hma, hd, hn⟩
    · subst hx0
      have g0 : ((noB.v.length : Int) == 0) = true := by decide
      have g0' : (noB.v.length == 0) = true := by decide
      refine wp_region_N [(0, 1), (1, 1)] (by kernel_rfl) ?_
      refine wpS_this [0, 1] rfl (by kernel_rfl) (by simp only [pickL, nthL, List.cons_append, List.nil_append]; rfl) ?_
      repeat (go_big_quiet_step (fail))
      refine wpQuiet_nil ?_
      refine wpS_nil ?_
      refine then_normal ?_
      refine wp_cond_true rfl ?_
      refine wp_seq ?_
      refine wp_region_N [(0, 1), (1, 1), (2, 1), (3, 1), (4, 1), (5, 1), (6, 1), (7, 1), (8, 1), (9, 1), (10, 1), (11, 1), (12, 1), (13, 1), (14, 1), (15, 3), (16, 1), (17, 1), (18, 1), (19, 1), (20, 3), (21, 1), (22, 1), (23, 1), (24, 1), (25, 1), (26, 3), (27, 1), (28, 1), (29, 1), (30, 1), (31, 1), (32, 1), (33, 1), (34, 1), (35, 1), (36, 1), (37, 1), (38, 1), (39, 1), (40, 1), (41, 1), (42, 1), (43, 3), (44, 1), (45, 1), (46, 1), (47, 1), (48, 1), (49, 1), (50, 1), (51, 1), (52, 3), (53, 1), (54, 1)] (by kernel_rfl) ?_
      refine wpS_this [0] rfl (by kernel_rfl) (by simp only [pickL, nthL, List.cons_append, List.nil_append]; rfl) ?_
      repeat (go_big_quiet_step (fail))
      refine wpQuiet_nil ?_
      refine wpS_load1 (i := 1) (d := some 43) (u := .slice px noB.v.length cx) rfl (by rfl) rfl rfl (HM56.out.part1 0 rfl bgC_sl) Try.underlying25 rfl rfl ?_
      simp only [Act.put, List.setIfInBounds_toArray, List.set_cons_succ, List.set_cons_zero]
      refine wpS_this [2, 3, 4, 5] rfl (by kernel_rfl) (by simp only [pickL, nthL, List.cons_append, List.nil_append]; rfl) ?_
      repeat (go_big_quiet_step (fail))
      refine wpQuiet_nil ?_
      refine wpS_loadA (i := 6) (d := some 48) (cells := vcC (noB.k)) rfl (by rfl) rfl rfl (HM56.out.part 0 rfl (bgC_vc)) Try.underlying24 rfl (by kernel_rfl) rfl ?_
      simp only [Act.put, List.setIfInBounds_toArray, List.set_cons_succ, List.set_cons_zero]
      refine wpS_this [7] rfl (by kernel_rfl) (by simp only [pickL, nthL, List.cons_append, List.nil_append]; rfl) ?_
      repeat (go_big_quiet_step (fail))
      refine wpQuiet_nil ?_
      refine wpS_read (i := 8) (d := some 50) rfl (by rfl) (run_eqV (eq_self (fun _ => 0)) rfl rfl rfl) rfl ?_
      simp only [Act.put, List.setIfInBounds_toArray, List.set_cons_succ, List.set_cons_zero]
      refine wpS_this [9, 10, 11, 12, 13] rfl (by kernel_rfl) (by simp only [pickL, nthL, List.cons_append, List.nil_append]; rfl) ?_
      repeat (go_big_quiet_step (fail))
      refine wpQuiet_nil ?_
      refine wpS_skip (i := 14) (d := some 56) rfl (by rfl) rfl ?_
      simp only [Act.put, List.setIfInBounds_toArray, List.set_cons_succ, List.set_cons_zero]
      refine wpS_skip (i := 15) (d := some 57) rfl (by rfl) rfl ?_
      simp only [Act.put, List.setIfInBounds_toArray, List.set_cons_succ, List.set_cons_zero]
      refine wpS_this [16, 17, 18] rfl (by kernel_rfl) (by simp only [pickL, nthL, List.cons_append, List.nil_append]; rfl) ?_
      repeat (go_big_quiet_step (fail))
      refine wpQuiet_nil ?_
      refine wpS_skip (i := 19) (d := some 61) rfl (by rfl) rfl ?_
      simp only [Act.put, List.setIfInBounds_toArray, List.set_cons_succ, List.set_cons_zero]
      refine wpS_skip (i := 20) (d := some 62) rfl (by rfl) rfl ?_
      simp only [Act.put, List.setIfInBounds_toArray, List.set_cons_succ, List.set_cons_zero]
      have Cb6 := Mem.cell HM56.out 4 rfl
      refine wpS_this [21, 22, 23, 24, 25] rfl (by kernel_rfl) (by simp only [pickL, nthL, List.cons_append, List.nil_append]; rfl) ?_
      repeat (go_big_quiet_step (fail))
      refine wpQuiet_nil ?_
      clear Cb6
      refine wpS_skip (i := 26) (d := some 68) rfl (by rfl) rfl ?_
      simp only [Act.put, List.setIfInBounds_toArray, List.set_cons_succ, List.set_cons_zero]
      have Cb6 := Mem.cell HM56.out 4 rfl
      refine wpS_this [27, 28, 29, 30, 31, 32, 33, 34, 35, 36, 37, 38, 39, 40] rfl (by kernel_rfl) (by simp only [pickL, nthL, List.cons_append, List.nil_append]; rfl) ?_
      repeat (go_big_quiet_step (fail))
      refine wpQuiet_nil ?_
      clear Cb6
      refine wpS_skip (i := 41) (d := some 83) rfl (by rfl) rfl ?_
      simp only [Act.put, List.setIfInBounds_toArray, List.set_cons_succ, List.set_cons_zero]
      have Cb6 := Mem.cell HM56.out 4 rfl
      refine wpS_this [42] rfl (by kernel_rfl) (by simp only [pickL, nthL, List.cons_append, List.nil_append]; rfl) ?_
      repeat (go_big_quiet_step (fail))
      refine wpQuiet_nil ?_
      clear Cb6
      refine wpS_skip (i := 43) (d := some 85) rfl (by rfl) rfl ?_
      simp only [Act.put, List.setIfInBounds_toArray, List.set_cons_succ, List.set_cons_zero]
      refine wpS_this [44, 45, 46, 47, 48, 49, 50, 51] rfl (by kernel_rfl) (by simp only [pickL, nthL, List.cons_append, List.nil_append]; rfl) ?_
      repeat (go_big_quiet_step (fail))
      refine wpQuiet_nil ?_
      refine wpS_does0 (i := 52) (d := some 94) (rem := [_, _, _, _, _, _, _]) (out := [_, _, _, _, _, _, _]) rfl (by rfl) rfl Try.call8 (bawake_d)  HM56.out [] rfl covS_nil rfl rfl ?_
      rintro W58 hm57 -
      have HM59 := Lib.hid hm57
      clear hm57
      simp only [Act.put, List.setIfInBounds_toArray, List.set_cons_succ, List.set_cons_zero]
      refine wpS_this [53, 54] rfl (by kernel_rfl) (by simp only [pickL, nthL, List.cons_append, List.nil_append]; rfl) ?_
      repeat (go_big_quiet_step (fail))
      refine wpQuiet_nil ?_
      refine wpS_nil ?_
      refine then_normal ?_
      refine wp_ret ?_
      refine then_ret ?_
      refine bodyPost_ret (results_tmp rfl _ _ _) rfl ?_
      exact does_ret (Mem.only (M := [_]) HM59.out [2] rfl) rfl rfl
    · replace hp1 := Lib.hid hp1
      subst hx0
      have g0 : ((noB.v.length : Int) == 0) = true := by decide
      have g0' : (noB.v.length == 0) = true := by decide
      refine wp_region_N [(0, 1), (1, 1)] (by kernel_rfl) ?_
      refine wpS_this [0, 1] rfl (by kernel_rfl) (by simp only [pickL, nthL, List.cons_append, List.nil_append]; rfl) ?_
      repeat (go_big_quiet_step (fail))
      refine wpQuiet_nil ?_
      refine wpS_nil ?_
      refine then_normal ?_
      refine wp_cond_true rfl ?_
      refine wp_seq ?_
      refine wp_region_N [(0, 1), (1, 1), (2, 1), (3, 1), (4, 1), (5, 1), (6, 1), (7, 1), (8, 1), (9, 1), (10, 1), (11, 1), (12, 1), (13, 1), (14, 1), (15, 3), (16, 1), (17, 1), (18, 1), (19, 1), (20, 3), (21, 1), (22, 1), (23, 1), (24, 1), (25, 1), (26, 3), (27, 1), (28, 1), (29, 1), (30, 1), (31, 1), (32, 1), (33, 1), (34, 1), (35, 1), (36, 1), (37, 1), (38, 1), (39, 1), (40, 1), (41, 1), (42, 1), (43, 3), (44, 1), (45, 1), (46, 1), (47, 1), (48, 1), (49, 1), (50, 1), (51, 1), (52, 3), (53, 1), (54, 1)] (by kernel_rfl) ?_
      refine wpS_this [0] rfl (by kernel_rfl) (by simp only [pickL, nthL, List.cons_append, List.nil_append]; rfl) ?_
      repeat (go_big_quiet_step (fail))
      refine wpQuiet_nil ?_
      refine wpS_load1 (i := 1) (d := some 43) (u := .slice px noB.v.length cx) rfl (by rfl) rfl rfl (HM56.out.part1 0 rfl bgC_sl) Try.underlying25 rfl rfl ?_
      simp only [Act.put, List.setIfInBounds_toArray, List.set_cons_succ, List.set_cons_zero]
      refine wpS_this [2, 3, 4, 5] rfl (by kernel_rfl) (by simp only [pickL, nthL, List.cons_append, List.nil_append]; rfl) ?_
      repeat (go_big_quiet_step (fail))
      refine wpQuiet_nil ?_
      refine wpS_loadA (i := 6) (d := some 48) (cells := vcC (noB.k)) rfl (by rfl) rfl rfl (HM56.out.part 0 rfl (bgC_vc)) Try.underlying24 rfl (by kernel_rfl) rfl ?_
      simp only [Act.put, List.setIfInBounds_toArray, List.set_cons_succ, List.set_cons_zero]
      refine wpS_this [7] rfl (by kernel_rfl) (by simp only [pickL, nthL, List.cons_append, List.nil_append]; rfl) ?_
      repeat (go_big_quiet_step (fail))
      refine wpQuiet_nil ?_
      refine wpS_read (i := 8) (d := some 50) rfl (by rfl) (run_eqV (eq_self (fun _ => 0)) rfl rfl rfl) rfl ?_
      simp only [Act.put, List.setIfInBounds_toArray, List.set_cons_succ, List.set_cons_zero]
      refine wpS_this [9, 10, 11, 12, 13] rfl (by kernel_rfl) (by simp only [pickL, nthL, List.cons_append, List.nil_append]; rfl) ?_
      repeat (go_big_quiet_step (fail))
      refine wpQuiet_nil ?_
      refine wpS_loadA (i := 14) (d := some 56) (cells := bgC (a.k) (.slice pa a.v.length ca)) rfl (by rfl) rfl rfl (HM56.out.part 6 rfl (bgC_all)) Try.underlying27 rfl (by kernel_rfl) rfl ?_
      simp only [Act.put, List.setIfInBounds_toArray, List.set_cons_succ, List.set_cons_zero]
      refine wpS_does1 (i := 15) (d := some 57) (rem := [_, _, _, _, _, _]) (out := [_, _, _, _, _, _, _]) rfl (by rfl) rfl Try.call12 (bmay_d (oldT W0) _ a (vOld ha) la) rfl HM56.out [2] rfl covS_nil rfl rfl ?_
      rintro W61 hm60 -
      rw [hp1.out]
      have HM62 := Lib.hid hm60
      clear hm60
      simp only [Act.put, List.setIfInBounds_toArray, List.set_cons_succ, List.set_cons_zero]
      refine wpS_this [16, 17, 18] rfl (by kernel_rfl) (by simp only [pickL, nthL, List.cons_append, List.nil_append]; rfl) ?_
      repeat (go_big_quiet_step (fail))
      refine wpQuiet_nil ?_
      refine wpS_skip (i := 19) (d := some 61) rfl (by rfl) rfl ?_
      simp only [Act.put, List.setIfInBounds_toArray, List.set_cons_succ, List.set_cons_zero]
      refine wpS_skip (i := 20) (d := some 62) rfl (by rfl) rfl ?_
      simp only [Act.put, List.setIfInBounds_toArray, List.set_cons_succ, List.set_cons_zero]
      have Cb6 := Mem.cell HM62.out 4 rfl
      refine wpS_this [21, 22, 23, 24, 25] rfl (by kernel_rfl) (by simp only [pickL, nthL, List.cons_append, List.nil_append]; rfl) ?_
      repeat (go_big_quiet_step (fail))
      refine wpQuiet_nil ?_
      clear Cb6
      refine wpS_skip (i := 26) (d := some 68) rfl (by rfl) rfl ?_
      simp only [Act.put, List.setIfInBounds_toArray, List.set_cons_succ, List.set_cons_zero]
      have Cb6 := Mem.cell HM62.out 4 rfl
      refine wpS_this [27, 28, 29, 30, 31, 32, 33, 34, 35, 36, 37, 38, 39, 40] rfl (by kernel_rfl) (by simp only [pickL, nthL, List.cons_append, List.nil_append]; rfl) ?_
      repeat (go_big_quiet_step (fail))
      refine wpQuiet_nil ?_
      clear Cb6
      refine wpS_skip (i := 41) (d := some 83) rfl (by rfl) rfl ?_
      simp only [Act.put, List.setIfInBounds_toArray, List.set_cons_succ, List.set_cons_zero]
      have Cb6 := Mem.cell HM62.out 4 rfl
      refine wpS_this [42] rfl (by kernel_rfl) (by simp only [pickL, nthL, List.cons_append, List.nil_append]; rfl) ?_
      repeat (go_big_quiet_step (fail))
      refine wpQuiet_nil ?_
      clear Cb6
      refine wpS_skip (i := 43) (d := some 85) rfl (by rfl) rfl ?_
      simp only [Act.put, List.setIfInBounds_toArray, List.set_cons_succ, List.set_cons_zero]
      refine wpS_this [44, 45, 46, 47, 48, 49, 50, 51] rfl (by kernel_rfl) (by simp only [pickL, nthL, List.cons_append, List.nil_append]; rfl) ?_
      repeat (go_big_quiet_step (fail))
      refine wpQuiet_nil ?_
      refine wpS_does0 (i := 52) (d := some 94) (rem := [_, _, _, _, _, _, _]) (out := [_, _, _, _, _, _, _]) rfl (by rfl) rfl Try.call8 (bawake_d)  HM62.out [] rfl covS_nil rfl rfl ?_
      rintro W64 hm63 -
      have HM65 := Lib.hid hm63
      clear hm63
      simp only [Act.put, List.setIfInBounds_toArray, List.set_cons_succ, List.set_cons_zero]
      refine wpS_this [53, 54] rfl (by kernel_rfl) (by simp only [pickL, nthL, List.cons_append, List.nil_append]; rfl) ?_
      repeat (go_big_quiet_step (fail))
      refine wpQuiet_nil ?_
      refine wpS_nil ?_
      refine then_normal ?_
      refine wp_ret ?_
      refine then_ret ?_
      refine bodyPost_ret (results_tmp rfl _ _ _) rfl ?_
      exact does_ret (Mem.only (M := [_]) HM65.out [0] rfl) rfl rfl
    · replace hp1 := Lib.hid hp1
      replace hp2 := Lib.hid hp2
      subst hx0
      have g0 : ((noB.v.length : Int) == 0) = true := by decide
      have g0' : (noB.v.length == 0) = true := by decide
      refine wp_region_N [(0, 1), (1, 1)] (by kernel_rfl) ?_
      refine wpS_this [0, 1] rfl (by kernel_rfl) (by simp only [pickL, nthL, List.cons_append, List.nil_append]; rfl) ?_
      repeat (go_big_quiet_step (fail))
      refine wpQuiet_nil ?_
      refine wpS_nil ?_
      refine then_normal ?_
      refine wp_cond_true rfl ?_
      refine wp_seq ?_
      refine wp_region_N [(0, 1), (1, 1), (2, 1), (3, 1), (4, 1), (5, 1), (6, 1), (7, 1), (8, 1), (9, 1), (10, 1), (11, 1), (12, 1), (13, 1), (14, 1), (15, 3), (16, 1), (17, 1), (18, 1), (19, 1), (20, 3), (21, 1), (22, 1), (23, 1), (24, 1), (25, 1), (26, 3), (27, 1), (28, 1), (29, 1), (30, 1), (31, 1), (32, 1), (33, 1), (34, 1), (35, 1), (36, 1), (37, 1), (38, 1), (39, 1), (40, 1), (41, 1), (42, 1), (43, 3), (44, 1), (45, 1), (46, 1), (47, 1), (48, 1), (49, 1), (50, 1), (51, 1), (52, 3), (53, 1), (54, 1)] (by kernel_rfl) ?_
      refine wpS_this [0] rfl (by kernel_rfl) (by simp only [pickL, nthL, List.cons_append, List.nil_append]; rfl) ?_
      repeat (go_big_quiet_step (fail))
      refine wpQuiet_nil ?_
      refine wpS_load1 (i := 1) (d := some 43) (u := .slice px noB.v.length cx) rfl (by rfl) rfl rfl (HM56.out.part1 0 rfl bgC_sl) Try.underlying25 rfl rfl ?_
      simp only [Act.put, List.setIfInBounds_toArray, List.set_cons_succ, List.set_cons_zero]
      refine wpS_this [2, 3, 4, 5] rfl (by kernel_rfl) (by simp only [pickL, nthL, List.cons_append, List.nil_append]; rfl) ?_
      repeat (go_big_quiet_step (fail))
      refine wpQuiet_nil ?_
      refine wpS_loadA (i := 6) (d := some 48) (cells := vcC (noB.k)) rfl (by rfl) rfl rfl (HM56.out.part 0 rfl (bgC_vc)) Try.underlying24 rfl (by kernel_rfl) rfl ?_
      simp only [Act.put, List.setIfInBounds_toArray, List.set_cons_succ, List.set_cons_zero]
      refine wpS_this [7] rfl (by kernel_rfl) (by simp only [pickL, nthL, List.cons_append, List.nil_append]; rfl) ?_
      repeat (go_big_quiet_step (fail))
      refine wpQuiet_nil ?_
      refine wpS_read (i := 8) (d := some 50) rfl (by rfl) (run_eqV (eq_self (fun _ => 0)) rfl rfl rfl) rfl ?_
      simp only [Act.put, List.setIfInBounds_toArray, List.set_cons_succ, List.set_cons_zero]
      refine wpS_this [9, 10, 11, 12, 13] rfl (by kernel_rfl) (by simp only [pickL, nthL, List.cons_append, List.nil_append]; rfl) ?_
      repeat (go_big_quiet_step (fail))
      refine wpQuiet_nil ?_
      refine wpS_loadA (i := 14) (d := some 56) (cells := bgC (a.k) (.slice pa a.v.length ca)) rfl (by rfl) rfl rfl (HM56.out.part 6 rfl (bgC_all)) Try.underlying27 rfl (by kernel_rfl) rfl ?_
      simp only [Act.put, List.setIfInBounds_toArray, List.set_cons_succ, List.set_cons_zero]
      refine wpS_does1 (i := 15) (d := some 57) (rem := [_, _, _, _, _, _]) (out := [_, _, _, _, _, _, _]) rfl (by rfl) rfl Try.call12 (bmay_d (oldT W0) _ a (vOld ha) la) rfl HM56.out [2] rfl covS_nil rfl rfl ?_
      rintro W67 hm66 -
      rw [hp1.out]
      have HM68 := Lib.hid hm66
      clear hm66
      simp only [Act.put, List.setIfInBounds_toArray, List.set_cons_succ, List.set_cons_zero]
      refine wpS_this [16, 17, 18] rfl (by kernel_rfl) (by simp only [pickL, nthL, List.cons_append, List.nil_append]; rfl) ?_
      repeat (go_big_quiet_step (fail))
      refine wpQuiet_nil ?_
      refine wpS_loadA (i := 19) (d := some 61) (cells := vcC (k)) rfl (by rfl) rfl rfl (HM68.out.cells0 5 rfl) Try.underlying24 rfl (by kernel_rfl) rfl ?_
      simp only [Act.put, List.setIfInBounds_toArray, List.set_cons_succ, List.set_cons_zero]
      refine wpS_does1 (i := 20) (d := some 62) (rem := [_, _, _, _, _, _, _]) (out := [_, _, _, _, _, _, _]) rfl (by rfl) rfl Try.call17 (cmay_d k) rfl HM68.out [] rfl covS_nil rfl rfl ?_
      rintro W70 hm69 -
      rw [hp2.out]
      have HM71 := Lib.hid hm69
      clear hm69
      simp only [Act.put, List.setIfInBounds_toArray, List.set_cons_succ, List.set_cons_zero]
      have Cb6 := Mem.cell HM71.out 4 rfl
      refine wpS_this [21, 22, 23, 24, 25] rfl (by kernel_rfl) (by simp only [pickL, nthL, List.cons_append, List.nil_append]; rfl) ?_
      repeat (go_big_quiet_step (fail))
      refine wpQuiet_nil ?_
      clear Cb6
      refine wpS_skip (i := 26) (d := some 68) rfl (by rfl) rfl ?_
      simp only [Act.put, List.setIfInBounds_toArray, List.set_cons_succ, List.set_cons_zero]
      have Cb6 := Mem.cell HM71.out 4 rfl
      refine wpS_this [27, 28, 29, 30, 31, 32, 33, 34, 35, 36, 37, 38, 39, 40] rfl (by kernel_rfl) (by simp only [pickL, nthL, List.cons_append, List.nil_append]; rfl) ?_
      repeat (go_big_quiet_step (fail))
      refine wpQuiet_nil ?_
      clear Cb6
      refine wpS_skip (i := 41) (d := some 83) rfl (by rfl) rfl ?_
      simp only [Act.put, List.setIfInBounds_toArray, List.set_cons_succ, List.set_cons_zero]
      have Cb6 := Mem.cell HM71.out 4 rfl
      refine wpS_this [42] rfl (by kernel_rfl) (by simp only [pickL, nthL, List.cons_append, List.nil_append]; rfl) ?_
      repeat (go_big_quiet_step (fail))
      refine wpQuiet_nil ?_
      clear Cb6
      refine wpS_skip (i := 43) (d := some 85) rfl (by rfl) rfl ?_
      simp only [Act.put, List.setIfInBounds_toArray, List.set_cons_succ, List.set_cons_zero]
      refine wpS_this [44, 45, 46, 47, 48, 49, 50, 51] rfl (by kernel_rfl) (by simp only [pickL, nthL, List.cons_append, List.nil_append]; rfl) ?_
      repeat (go_big_quiet_step (fail))
      refine wpQuiet_nil ?_
      refine wpS_does0 (i := 52) (d := some 94) (rem := [_, _, _, _, _, _, _]) (out := [_, _, _, _, _, _, _]) rfl (by rfl) rfl Try.call8 (bawake_d)  HM71.out [] rfl covS_nil rfl rfl ?_
      rintro W73 hm72 -
      have HM74 := Lib.hid hm72
      clear hm72
      simp only [Act.put, List.setIfInBounds_toArray, List.set_cons_succ, List.set_cons_zero]
      refine wpS_this [53, 54] rfl (by kernel_rfl) (by simp only [pickL, nthL, List.cons_append, List.nil_append]; rfl) ?_
      repeat (go_big_quiet_step (fail))
      refine wpQuiet_nil ?_
      refine wpS_nil ?_
      refine then_normal ?_
      refine wp_ret ?_
      refine then_ret ?_
      refine bodyPost_ret (results_tmp rfl _ _ _) rfl ?_
      exact does_ret (Mem.only (M := [_]) HM74.out [0] rfl) rfl rfl
    · replace hp1 := Lib.hid hp1
      replace hp2 := Lib.hid hp2
      replace hp3 := Lib.hid hp3
      subst hx0
      have g0 : ((noB.v.length : Int) == 0) = true := by decide
      have g0' : (noB.v.length == 0) = true := by decide
      refine wp_region_N [(0, 1), (1, 1)] (by kernel_rfl) ?_
      refine wpS_this [0, 1] rfl (by kernel_rfl) (by simp only [pickL, nthL, List.cons_append, List.nil_append]; rfl) ?_
      repeat (go_big_quiet_step (fail))
      refine wpQuiet_nil ?_
      refine wpS_nil ?_
      refine then_normal ?_
      refine wp_cond_true rfl ?_
      refine wp_seq ?_
      refine wp_region_N [(0, 1), (1, 1), (2, 1), (3, 1), (4, 1), (5, 1), (6, 1), (7, 1), (8, 1), (9, 1), (10, 1), (11, 1), (12, 1), (13, 1), (14, 1), (15, 3), (16, 1), (17, 1), (18, 1), (19, 1), (20, 3), (21, 1), (22, 1), (23, 1), (24, 1), (25, 1), (26, 3), (27, 1), (28, 1), (29, 1), (30, 1), (31, 1), (32, 1), (33, 1), (34, 1), (35, 1), (36, 1), (37, 1), (38, 1), (39, 1), (40, 1), (41, 1), (42, 1), (43, 3), (44, 1), (45, 1), (46, 1), (47, 1), (48, 1), (49, 1), (50, 1), (51, 1), (52, 3), (53, 1), (54, 1)] (by kernel_rfl) ?_
      refine wpS_this [0] rfl (by kernel_rfl) (by simp only [pickL, nthL, List.cons_append, List.nil_append]; rfl) ?_
      repeat (go_big_quiet_step (fail))
      refine wpQuiet_nil ?_
      refine wpS_load1 (i := 1) (d := some 43) (u := .slice px noB.v.length cx) rfl (by rfl) rfl rfl (HM56.out.part1 0 rfl bgC_sl) Try.underlying25 rfl rfl ?_
      simp only [Act.put, List.setIfInBounds_toArray, List.set_cons_succ, List.set_cons_zero]
      refine wpS_this [2, 3, 4, 5] rfl (by kernel_rfl) (by simp only [pickL, nthL, List.cons_append, List.nil_append]; rfl) ?_
      repeat (go_big_quiet_step (fail))
      refine wpQuiet_nil ?_
      refine wpS_loadA (i := 6) (d := some 48) (cells := vcC (noB.k)) rfl (by rfl) rfl rfl (HM56.out.part 0 rfl (bgC_vc)) Try.underlying24 rfl (by kernel_rfl) rfl ?_
      simp only [Act.put, List.setIfInBounds_toArray, List.set_cons_succ, List.set_cons_zero]
      refine wpS_this [7] rfl (by kernel_rfl) (by simp only [pickL, nthL, List.cons_append, List.nil_append]; rfl) ?_
      repeat (go_big_quiet_step (fail))
      refine wpQuiet_nil ?_
      refine wpS_read (i := 8) (d := some 50) rfl (by rfl) (run_eqV (eq_self (fun _ => 0)) rfl rfl rfl) rfl ?_
      simp only [Act.put, List.setIfInBounds_toArray, List.set_cons_succ, List.set_cons_zero]
      refine wpS_this [9, 10, 11, 12, 13] rfl (by kernel_rfl) (by simp only [pickL, nthL, List.cons_append, List.nil_append]; rfl) ?_
      repeat (go_big_quiet_step (fail))
      refine wpQuiet_nil ?_
      refine wpS_loadA (i := 14) (d := some 56) (cells := bgC (a.k) (.slice pa a.v.length ca)) rfl (by rfl) rfl rfl (HM56.out.part 6 rfl (bgC_all)) Try.underlying27 rfl (by kernel_rfl) rfl ?_
      simp only [Act.put, List.setIfInBounds_toArray, List.set_cons_succ, List.set_cons_zero]
      refine wpS_does1 (i := 15) (d := some 57) (rem := [_, _, _, _, _, _]) (out := [_, _, _, _, _, _, _]) rfl (by rfl) rfl Try.call12 (bmay_d (oldT W0) _ a (vOld ha) la) rfl HM56.out [2] rfl covS_nil rfl rfl ?_
      rintro W76 hm75 -
      rw [hp1.out]
      have HM77 := Lib.hid hm75
      clear hm75
      simp only [Act.put, List.setIfInBounds_toArray, List.set_cons_succ, List.set_cons_zero]
      refine wpS_this [16, 17, 18] rfl (by kernel_rfl) (by simp only [pickL, nthL, List.cons_append, List.nil_append]; rfl) ?_
      repeat (go_big_quiet_step (fail))
      refine wpQuiet_nil ?_
      refine wpS_loadA (i := 19) (d := some 61) (cells := vcC (k)) rfl (by rfl) rfl rfl (HM77.out.cells0 5 rfl) Try.underlying24 rfl (by kernel_rfl) rfl ?_
      simp only [Act.put, List.setIfInBounds_toArray, List.set_cons_succ, List.set_cons_zero]
      refine wpS_does1 (i := 20) (d := some 62) (rem := [_, _, _, _, _, _, _]) (out := [_, _, _, _, _, _, _]) rfl (by rfl) rfl Try.call17 (cmay_d k) rfl HM77.out [] rfl covS_nil rfl rfl ?_
      rintro W79 hm78 -
      rw [hp2.out]
      have HM80 := Lib.hid hm78
      clear hm78
      simp only [Act.put, List.setIfInBounds_toArray, List.set_cons_succ, List.set_cons_zero]
      have Cb6 := Mem.cell HM80.out 4 rfl
      refine wpS_this [21, 22, 23, 24, 25] rfl (by kernel_rfl) (by simp only [pickL, nthL, List.cons_append, List.nil_append]; rfl) ?_
      repeat (go_big_quiet_step (fail))
      refine wpQuiet_nil ?_
      clear Cb6
      refine wpS_does1 (i := 26) (d := some 68) (rem := [_, _, _, _, _, _, _]) (out := [_, _, _, _, _, _, _]) rfl (by rfl) rfl Try.call18 (rnode_d d1) rfl HM80.out [] rfl covS_nil rfl rfl ?_
      rintro W82 hm81 -
      rw [hp3.out]
      have HM83 := Lib.hid hm81
      clear hm81
      simp only [Act.put, List.setIfInBounds_toArray, List.set_cons_succ, List.set_cons_zero]
      have Cb6 := Mem.cell HM83.out 4 rfl
      refine wpS_this [27, 28, 29, 30, 31, 32, 33, 34, 35, 36, 37, 38, 39, 40] rfl (by kernel_rfl) (by simp only [pickL, nthL, List.cons_append, List.nil_append]; rfl) ?_
      repeat (go_big_quiet_step (fail))
      refine wpQuiet_nil ?_
      clear Cb6
      refine wpS_skip (i := 41) (d := some 83) rfl (by rfl) rfl ?_
      simp only [Act.put, List.setIfInBounds_toArray, List.set_cons_succ, List.set_cons_zero]
      have Cb6 := Mem.cell HM83.out 4 rfl
      refine wpS_this [42] rfl (by kernel_rfl) (by simp only [pickL, nthL, List.cons_append, List.nil_append]; rfl) ?_
      repeat (go_big_quiet_step (fail))
      refine wpQuiet_nil ?_
      clear Cb6
      refine wpS_skip (i := 43) (d := some 85) rfl (by rfl) rfl ?_
      simp only [Act.put, List.setIfInBounds_toArray, List.set_cons_succ, List.set_cons_zero]
      refine wpS_this [44, 45, 46, 47, 48, 49, 50, 51] rfl (by kernel_rfl) (by simp only [pickL, nthL, List.cons_append, List.nil_append]; rfl) ?_
      repeat (go_big_quiet_step (fail))
      refine wpQuiet_nil ?_
      refine wpS_does0 (i := 52) (d := some 94) (rem := [_, _, _, _, _, _, _]) (out := [_, _, _, _, _, _, _]) rfl (by rfl) rfl Try.call8 (bawake_d)  HM83.out [] rfl covS_nil rfl rfl ?_
      rintro W85 hm84 -
      have HM86 := Lib.hid hm84
      clear hm84
      simp only [Act.put, List.setIfInBounds_toArray, List.set_cons_succ, List.set_cons_zero]
      refine wpS_this [53, 54] rfl (by kernel_rfl) (by simp only [pickL, nthL, List.cons_append, List.nil_append]; rfl) ?_
      repeat (go_big_quiet_step (fail))
      refine wpQuiet_nil ?_
      refine wpS_nil ?_
      refine then_normal ?_
      refine wp_ret ?_
      refine then_ret ?_
      refine bodyPost_ret (results_tmp rfl _ _ _) rfl ?_
      exact does_ret (Mem.only (M := [_]) HM86.out [0] rfl) rfl rfl
    · have g5 : decide (d2 < 1) = true := decide_eq_true h5
      replace hp1 := Lib.hid hp1
      replace hp2 := Lib.hid hp2
      replace hp3 := Lib.hid hp3
      replace h5 := Lib.hid h5
      subst hx0
      have g0 : ((noB.v.length : Int) == 0) = true := by decide
      have g0' : (noB.v.length == 0) = true := by decide
      refine wp_region_N [(0, 1), (1, 1)] (by kernel_rfl) ?_
      refine wpS_this [0, 1] rfl (by kernel_rfl) (by simp only [pickL, nthL, List.cons_append, List.nil_append]; rfl) ?_
      repeat (go_big_quiet_step (fail))
      refine wpQuiet_nil ?_
      refine wpS_nil ?_
      refine then_normal ?_
      refine wp_cond_true rfl ?_
      refine wp_seq ?_
      refine wp_region_N [(0, 1), (1, 1), (2, 1), (3, 1), (4, 1), (5, 1), (6, 1), (7, 1), (8, 1), (9, 1), (10, 1), (11, 1), (12, 1), (13, 1), (14, 1), (15, 3), (16, 1), (17, 1), (18, 1), (19, 1), (20, 3), (21, 1), (22, 1), (23, 1), (24, 1), (25, 1), (26, 3), (27, 1), (28, 1), (29, 1), (30, 1), (31, 1), (32, 1), (33, 1), (34, 1), (35, 1), (36, 1), (37, 1), (38, 1), (39, 1), (40, 1), (41, 1), (42, 1), (43, 3), (44, 1), (45, 1), (46, 1), (47, 1), (48, 1), (49, 1), (50, 1), (51, 1), (52, 3), (53, 1), (54, 1)] (by kernel_rfl) ?_
      refine wpS_this [0] rfl (by kernel_rfl) (by simp only [pickL, nthL, List.cons_append, List.nil_append]; rfl) ?_
      repeat (go_big_quiet_step (fail))
      refine wpQuiet_nil ?_
      refine wpS_load1 (i := 1) (d := some 43) (u := .slice px noB.v.length cx) rfl (by rfl) rfl rfl (HM56.out.part1 0 rfl bgC_sl) Try.underlying25 rfl rfl ?_
      simp only [Act.put, List.setIfInBounds_toArray, List.set_cons_succ, List.set_cons_zero]
      refine wpS_this [2, 3, 4, 5] rfl (by kernel_rfl) (by simp only [pickL, nthL, List.cons_append, List.nil_append]; rfl) ?_
      repeat (go_big_quiet_step (fail))
      refine wpQuiet_nil ?_
      refine wpS_loadA (i := 6) (d := some 48) (cells := vcC (noB.k)) rfl (by rfl) rfl rfl (HM56.out.part 0 rfl (bgC_vc)) Try.underlying24 rfl (by kernel_rfl) rfl ?_
      simp only [Act.put, List.setIfInBounds_toArray, List.set_cons_succ, List.set_cons_zero]
      refine wpS_this [7] rfl (by kernel_rfl) (by simp only [pickL, nthL, List.cons_append, List.nil_append]; rfl) ?_
      repeat (go_big_quiet_step (fail))
      refine wpQuiet_nil ?_
      refine wpS_read (i := 8) (d := some 50) rfl (by rfl) (run_eqV (eq_self (fun _ => 0)) rfl rfl rfl) rfl ?_
      simp only [Act.put, List.setIfInBounds_toArray, List.set_cons_succ, List.set_cons_zero]
      refine wpS_this [9, 10, 11, 12, 13] rfl (by kernel_rfl) (by simp only [pickL, nthL, List.cons_append, List.nil_append]; rfl) ?_
      repeat (go_big_quiet_step (fail))
      refine wpQuiet_nil ?_
      refine wpS_loadA (i := 14) (d := some 56) (cells := bgC (a.k) (.slice pa a.v.length ca)) rfl (by rfl) rfl rfl (HM56.out.part 6 rfl (bgC_all)) Try.underlying27 rfl (by kernel_rfl) rfl ?_
      simp only [Act.put, List.setIfInBounds_toArray, List.set_cons_succ, List.set_cons_zero]
      refine wpS_does1 (i := 15) (d := some 57) (rem := [_, _, _, _, _, _]) (out := [_, _, _, _, _, _, _]) rfl (by rfl) rfl Try.call12 (bmay_d (oldT W0) _ a (vOld ha) la) rfl HM56.out [2] rfl covS_nil rfl rfl ?_
      rintro W88 hm87 -
      rw [hp1.out]
      have HM89 := Lib.hid hm87
      clear hm87
      simp only [Act.put, List.setIfInBounds_toArray, List.set_cons_succ, List.set_cons_zero]
      refine wpS_this [16, 17, 18] rfl (by kernel_rfl) (by simp only [pickL, nthL, List.cons_append, List.nil_append]; rfl) ?_
      repeat (go_big_quiet_step (fail))
      refine wpQuiet_nil ?_
      refine wpS_loadA (i := 19) (d := some 61) (cells := vcC (k)) rfl (by rfl) rfl rfl (HM89.out.cells0 5 rfl) Try.underlying24 rfl (by kernel_rfl) rfl ?_
      simp only [Act.put, List.setIfInBounds_toArray, List.set_cons_succ, List.set_cons_zero]
      refine wpS_does1 (i := 20) (d := some 62) (rem := [_, _, _, _, _, _, _]) (out := [_, _, _, _, _, _, _]) rfl (by rfl) rfl Try.call17 (cmay_d k) rfl HM89.out [] rfl covS_nil rfl rfl ?_
      rintro W91 hm90 -
      rw [hp2.out]
      have HM92 := Lib.hid hm90
      clear hm90
      simp only [Act.put, List.setIfInBounds_toArray, List.set_cons_succ, List.set_cons_zero]
      have Cb6 := Mem.cell HM92.out 4 rfl
      refine wpS_this [21, 22, 23, 24, 25] rfl (by kernel_rfl) (by simp only [pickL, nthL, List.cons_append, List.nil_append]; rfl) ?_
      repeat (go_big_quiet_step (fail))
      refine wpQuiet_nil ?_
      clear Cb6
      refine wpS_does1 (i := 26) (d := some 68) (rem := [_, _, _, _, _, _, _]) (out := [_, _, _, _, _, _, _]) rfl (by rfl) rfl Try.call18 (rnode_d d1) rfl HM92.out [] rfl covS_nil rfl rfl ?_
      rintro W94 hm93 -
      rw [hp3.out]
      have HM95 := Lib.hid hm93
      clear hm93
      simp only [Act.put, List.setIfInBounds_toArray, List.set_cons_succ, List.set_cons_zero]
      have Cb6 := Mem.cell HM95.out 4 rfl
      refine wpS_this [27, 28, 29, 30, 31, 32, 33, 34, 35, 36, 37, 38, 39, 40] rfl (by kernel_rfl) (by simp only [pickL, nthL, List.cons_append, List.nil_append]; rfl) ?_
      repeat (go_big_quiet_step (fail))
      refine wpQuiet_nil ?_
      clear Cb6
      refine wpS_skip (i := 41) (d := some 83) rfl (by rfl) rfl ?_
      simp only [Act.put, List.setIfInBounds_toArray, List.set_cons_succ, List.set_cons_zero]
      have Cb6 := Mem.cell HM95.out 4 rfl
      refine wpS_this [42] rfl (by kernel_rfl) (by simp only [pickL, nthL, List.cons_append, List.nil_append]; rfl) ?_
      repeat (go_big_quiet_step (fail))
      refine wpQuiet_nil ?_
      clear Cb6
      refine wpS_skip (i := 43) (d := some 85) rfl (by rfl) rfl ?_
      simp only [Act.put, List.setIfInBounds_toArray, List.set_cons_succ, List.set_cons_zero]
      refine wpS_this [44, 45, 46, 47, 48, 49, 50, 51] rfl (by kernel_rfl) (by simp only [pickL, nthL, List.cons_append, List.nil_append]; rfl) ?_
      repeat (go_big_quiet_step (fail))
      refine wpQuiet_nil ?_
      refine wpS_does0 (i := 52) (d := some 94) (rem := [_, _, _, _, _, _, _]) (out := [_, _, _, _, _, _, _]) rfl (by rfl) rfl Try.call8 (bawake_d)  HM95.out [] rfl covS_nil rfl rfl ?_
      rintro W97 hm96 -
      have HM98 := Lib.hid hm96
      clear hm96
      simp only [Act.put, List.setIfInBounds_toArray, List.set_cons_succ, List.set_cons_zero]
      refine wpS_this [53, 54] rfl (by kernel_rfl) (by simp only [pickL, nthL, List.cons_append, List.nil_append]; rfl) ?_
      repeat (go_big_quiet_step (fail))
      refine wpQuiet_nil ?_
      refine wpS_nil ?_
      refine then_normal ?_
      refine wp_ret ?_
      refine then_ret ?_
      refine bodyPost_ret (results_tmp rfl _ _ _) rfl ?_
      exact does_ret (Mem.only (M := [_]) HM98.out [0] rfl) rfl rfl
    · have g5 : decide (d2 < 1) = false := decide_eq_false h5
      have g6 : decide (1000000 < d2) = true := decide_eq_true h6
      replace hp1 := Lib.hid hp1
      replace hp2 := Lib.hid hp2
      replace hp3 := Lib.hid hp3
      replace h5 := Lib.hid h5
      replace h6 := Lib.hid h6
      subst hx0
      have g0 : ((noB.v.length : Int) == 0) = true := by decide
      have g0' : (noB.v.length == 0) = true := by decide
      refine wp_region_N [(0, 1), (1, 1)] (by kernel_rfl) ?_
      refine wpS_this [0, 1] rfl (by kernel_rfl) (by simp only [pickL, nthL, List.cons_append, List.nil_append]; rfl) ?_
      repeat (go_big_quiet_step (fail))
      refine wpQuiet_nil ?_
      refine wpS_nil ?_
      refine then_normal ?_
      refine wp_cond_true rfl ?_
      refine wp_seq ?_
      refine wp_region_N [(0, 1), (1, 1), (2, 1), (3, 1), (4, 1), (5, 1), (6, 1), (7, 1), (8, 1), (9, 1), (10, 1), (11, 1), (12, 1), (13, 1), (14, 1), (15, 3), (16, 1), (17, 1), (18, 1), (19, 1), (20, 3), (21, 1), (22, 1), (23, 1), (24, 1), (25, 1), (26, 3), (27, 1), (28, 1), (29, 1), (30, 1), (31, 1), (32, 1), (33, 1), (34, 1), (35, 1), (36, 1), (37, 1), (38, 1), (39, 1), (40, 1), (41, 1), (42, 1), (43, 3), (44, 1), (45, 1), (46, 1), (47, 1), (48, 1), (49, 1), (50, 1), (51, 1), (52, 3), (53, 1), (54, 1)] (by kernel_rfl) ?_
      refine wpS_this [0] rfl (by kernel_rfl) (by simp only [pickL, nthL, List.cons_append, List.nil_append]; rfl) ?_
      repeat (go_big_quiet_step (fail))
      refine wpQuiet_nil ?_
      refine wpS_load1 (i := 1) (d := some 43) (u := .slice px noB.v.length cx) rfl (by rfl) rfl rfl (HM56.out.part1 0 rfl bgC_sl) Try.underlying25 rfl rfl ?_
      simp only [Act.put, List.setIfInBounds_toArray, List.set_cons_succ, List.set_cons_zero]
      refine wpS_this [2, 3, 4, 5] rfl (by kernel_rfl) (by simp only [pickL, nthL, List.cons_append, List.nil_append]; rfl) ?_
      repeat (go_big_quiet_step (fail))
      refine wpQuiet_nil ?_
      refine wpS_loadA (i := 6) (d := some 48) (cells := vcC (noB.k)) rfl (by rfl) rfl rfl (HM56.out.part 0 rfl (bgC_vc)) Try.underlying24 rfl (by kernel_rfl) rfl ?_
      simp only [Act.put, List.setIfInBounds_toArray, List.set_cons_succ, List.set_cons_zero]
      refine wpS_this [7] rfl (by kernel_rfl) (by simp only [pickL, nthL, List.cons_append, List.nil_append]; rfl) ?_
      repeat (go_big_quiet_step (fail))
      refine wpQuiet_nil ?_
      refine wpS_read (i := 8) (d := some 50) rfl (by rfl) (run_eqV (eq_self (fun _ => 0)) rfl rfl rfl) rfl ?_
      simp only [Act.put, List.setIfInBounds_toArray, List.set_cons_succ, List.set_cons_zero]
      refine wpS_this [9, 10, 11, 12, 13] rfl (by kernel_rfl) (by simp only [pickL, nthL, List.cons_append, List.nil_append]; rfl) ?_
      repeat (go_big_quiet_step (fail))
      refine wpQuiet_nil ?_
      refine wpS_loadA (i := 14) (d := some 56) (cells := bgC (a.k) (.slice pa a.v.length ca)) rfl (by rfl) rfl rfl (HM56.out.part 6 rfl (bgC_all)) Try.underlying27 rfl (by kernel_rfl) rfl ?_
      simp only [Act.put, List.setIfInBounds_toArray, List.set_cons_succ, List.set_cons_zero]
      refine wpS_does1 (i := 15) (d := some 57) (rem := [_, _, _, _, _, _]) (out := [_, _, _, _, _, _, _]) rfl (by rfl) rfl Try.call12 (bmay_d (oldT W0) _ a (vOld ha) la) rfl HM56.out [2] rfl covS_nil rfl rfl ?_
      rintro W100 hm99 -
      rw [hp1.out]
      have HM101 := Lib.hid hm99
      clear hm99
      simp only [Act.put, List.setIfInBounds_toArray, List.set_cons_succ, List.set_cons_zero]
      refine wpS_this [16, 17, 18] rfl (by kernel_rfl) (by simp only [pickL, nthL, List.cons_append, List.nil_append]; rfl) ?_
      repeat (go_big_quiet_step (fail))
      refine wpQuiet_nil ?_
      refine wpS_loadA (i := 19) (d := some 61) (cells := vcC (k)) rfl (by rfl) rfl rfl (HM101.out.cells0 5 rfl) Try.underlying24 rfl (by kernel_rfl) rfl ?_
      simp only [Act.put, List.setIfInBounds_toArray, List.set_cons_succ, List.set_cons_zero]
      refine wpS_does1 (i := 20) (d := some 62) (rem := [_, _, _, _, _, _, _]) (out := [_, _, _, _, _, _, _]) rfl (by rfl) rfl Try.call17 (cmay_d k) rfl HM101.out [] rfl covS_nil rfl rfl ?_
      rintro W103 hm102 -
      rw [hp2.out]
      have HM104 := Lib.hid hm102
      clear hm102
      simp only [Act.put, List.setIfInBounds_toArray, List.set_cons_succ, List.set_cons_zero]
      have Cb6 := Mem.cell HM104.out 4 rfl
      refine wpS_this [21, 22, 23, 24, 25] rfl (by kernel_rfl) (by simp only [pickL, nthL, List.cons_append, List.nil_append]; rfl) ?_
      repeat (go_big_quiet_step (fail))
      refine wpQuiet_nil ?_
      clear Cb6
      refine wpS_does1 (i := 26) (d := some 68) (rem := [_, _, _, _, _, _, _]) (out := [_, _, _, _, _, _, _]) rfl (by rfl) rfl Try.call18 (rnode_d d1) rfl HM104.out [] rfl covS_nil rfl rfl ?_
      rintro W106 hm105 -
      rw [hp3.out]
      have HM107 := Lib.hid hm105
      clear hm105
      simp only [Act.put, List.setIfInBounds_toArray, List.set_cons_succ, List.set_cons_zero]
      have Cb6 := Mem.cell HM107.out 4 rfl
      refine wpS_this [27, 28, 29, 30, 31, 32, 33, 34, 35, 36, 37, 38, 39, 40] rfl (by kernel_rfl) (by simp only [pickL, nthL, List.cons_append, List.nil_append]; rfl) ?_
      repeat (go_big_quiet_step (fail))
      refine wpQuiet_nil ?_
      clear Cb6
      refine wpS_skip (i := 41) (d := some 83) rfl (by rfl) rfl ?_
      simp only [Act.put, List.setIfInBounds_toArray, List.set_cons_succ, List.set_cons_zero]
      have Cb6 := Mem.cell HM107.out 4 rfl
      refine wpS_this [42] rfl (by kernel_rfl) (by simp only [pickL, nthL, List.cons_append, List.nil_append]; rfl) ?_
      repeat (go_big_quiet_step (fail))
      refine wpQuiet_nil ?_
      clear Cb6
      refine wpS_skip (i := 43) (d := some 85) rfl (by rfl) rfl ?_
      simp only [Act.put, List.setIfInBounds_toArray, List.set_cons_succ, List.set_cons_zero]
      refine wpS_this [44, 45, 46, 47, 48, 49, 50, 51] rfl (by kernel_rfl) (by simp only [pickL, nthL, List.cons_append, List.nil_append]; rfl) ?_
      repeat (go_big_quiet_step (fail))
      refine wpQuiet_nil ?_
      refine wpS_does0 (i := 52) (d := some 94) (rem := [_, _, _, _, _, _, _]) (out := [_, _, _, _, _, _, _]) rfl (by rfl) rfl Try.call8 (bawake_d)  HM107.out [] rfl covS_nil rfl rfl ?_
      rintro W109 hm108 -
      have HM110 := Lib.hid hm108
      clear hm108
      simp only [Act.put, List.setIfInBounds_toArray, List.set_cons_succ, List.set_cons_zero]
      refine wpS_this [53, 54] rfl (by kernel_rfl) (by simp only [pickL, nthL, List.cons_append, List.nil_append]; rfl) ?_
      repeat (go_big_quiet_step (fail))
      refine wpQuiet_nil ?_
      refine wpS_nil ?_
      refine then_normal ?_
      refine wp_ret ?_
      refine then_ret ?_
      refine bodyPost_ret (results_tmp rfl _ _ _) rfl ?_
      exact does_ret (Mem.only (M := [_]) HM110.out [0] rfl) rfl rfl
    · have g5 : decide (d2 < 1) = false := decide_eq_false h5
      have g6 : decide (1000000 < d2) = false := decide_eq_false h6
      replace hp1 := Lib.hid hp1
      replace hp2 := Lib.hid hp2
      replace hp3 := Lib.hid hp3
      replace hp4 := Lib.hid hp4
      replace h5 := Lib.hid h5
      replace h6 := Lib.hid h6
      subst hx0
      have g0 : ((noB.v.length : Int) == 0) = true := by decide
      have g0' : (noB.v.length == 0) = true := by decide
      refine wp_region_N [(0, 1), (1, 1)] (by kernel_rfl) ?_
      refine wpS_this [0, 1] rfl (by kernel_rfl) (by simp only [pickL, nthL, List.cons_append, List.nil_append]; rfl) ?_
      repeat (go_big_quiet_step (fail))
      refine wpQuiet_nil ?_
      refine wpS_nil ?_
      refine then_normal ?_
      refine wp_cond_true rfl ?_
      refine wp_seq ?_
      refine wp_region_N [(0, 1), (1, 1), (2, 1), (3, 1), (4, 1), (5, 1), (6, 1), (7, 1), (8, 1), (9, 1), (10, 1), (11, 1), (12, 1), (13, 1), (14, 1), (15, 3), (16, 1), (17, 1), (18, 1), (19, 1), (20, 3), (21, 1), (22, 1), (23, 1), (24, 1), (25, 1), (26, 3), (27, 1), (28, 1), (29, 1), (30, 1), (31, 1), (32, 1), (33, 1), (34, 1), (35, 1), (36, 1), (37, 1), (38, 1), (39, 1), (40, 1), (41, 1), (42, 1), (43, 3), (44, 1), (45, 1), (46, 1), (47, 1), (48, 1), (49, 1), (50, 1), (51, 1), (52, 3), (53, 1), (54, 1)] (by kernel_rfl) ?_
      refine wpS_this [0] rfl (by kernel_rfl) (by simp only [pickL, nthL, List.cons_append, List.nil_append]; rfl) ?_
      repeat (go_big_quiet_step (fail))
      refine wpQuiet_nil ?_
      refine wpS_load1 (i := 1) (d := some 43) (u := .slice px noB.v.length cx) rfl (by rfl) rfl rfl (HM56.out.part1 0 rfl bgC_sl) Try.underlying25 rfl rfl ?_
      simp only [Act.put, List.setIfInBounds_toArray, List.set_cons_succ, List.set_cons_zero]
      refine wpS_this [2, 3, 4, 5] rfl (by kernel_rfl) (by simp only [pickL, nthL, List.cons_append, List.nil_append]; rfl) ?_
      repeat (go_big_quiet_step (fail))
      refine wpQuiet_nil ?_
      refine wpS_loadA (i := 6) (d := some 48) (cells := vcC (noB.k)) rfl (by rfl) rfl rfl (HM56.out.part 0 rfl (bgC_vc)) Try.underlying24 rfl (by kernel_rfl) rfl ?_
      simp only [Act.put, List.setIfInBounds_toArray, List.set_cons_succ, List.set_cons_zero]
      refine wpS_this [7] rfl (by kernel_rfl) (by simp only [pickL, nthL, List.cons_append, List.nil_append]; rfl) ?_
      repeat (go_big_quiet_step (fail))
      refine wpQuiet_nil ?_
      refine wpS_read (i := 8) (d := some 50) rfl (by rfl) (run_eqV (eq_self (fun _ => 0)) rfl rfl rfl) rfl ?_
      simp only [Act.put, List.setIfInBounds_toArray, List.set_cons_succ, List.set_cons_zero]
      refine wpS_this [9, 10, 11, 12, 13] rfl (by kernel_rfl) (by simp only [pickL, nthL, List.cons_append, List.nil_append]; rfl) ?_
      repeat (go_big_quiet_step (fail))
      refine wpQuiet_nil ?_
      refine wpS_loadA (i := 14) (d := some 56) (cells := bgC (a.k) (.slice pa a.v.length ca)) rfl (by rfl) rfl rfl (HM56.out.part 6 rfl (bgC_all)) Try.underlying27 rfl (by kernel_rfl) rfl ?_
      simp only [Act.put, List.setIfInBounds_toArray, List.set_cons_succ, List.set_cons_zero]
      refine wpS_does1 (i := 15) (d := some 57) (rem := [_, _, _, _, _, _]) (out := [_, _, _, _, _, _, _]) rfl (by rfl) rfl Try.call12 (bmay_d (oldT W0) _ a (vOld ha) la) rfl HM56.out [2] rfl covS_nil rfl rfl ?_
      rintro W112 hm111 -
      rw [hp1.out]
      have HM113 := Lib.hid hm111
      clear hm111
      simp only [Act.put, List.setIfInBounds_toArray, List.set_cons_succ, List.set_cons_zero]
      refine wpS_this [16, 17, 18] rfl (by kernel_rfl) (by simp only [pickL, nthL, List.cons_append, List.nil_append]; rfl) ?_
      repeat (go_big_quiet_step (fail))
      refine wpQuiet_nil ?_
      refine wpS_loadA (i := 19) (d := some 61) (cells := vcC (k)) rfl (by rfl) rfl rfl (HM113.out.cells0 5 rfl) Try.underlying24 rfl (by kernel_rfl) rfl ?_
      simp only [Act.put, List.setIfInBounds_toArray, List.set_cons_succ, List.set_cons_zero]
      refine wpS_does1 (i := 20) (d := some 62) (rem := [_, _, _, _, _, _, _]) (out := [_, _, _, _, _, _, _]) rfl (by rfl) rfl Try.call17 (cmay_d k) rfl HM113.out [] rfl covS_nil rfl rfl ?_
      rintro W115 hm114 -
      rw [hp2.out]
      have HM116 := Lib.hid hm114
      clear hm114
      simp only [Act.put, List.setIfInBounds_toArray, List.set_cons_succ, List.set_cons_zero]
      have Cb6 := Mem.cell HM116.out 4 rfl
      refine wpS_this [21, 22, 23, 24, 25] rfl (by kernel_rfl) (by simp only [pickL, nthL, List.cons_append, List.nil_append]; rfl) ?_
      repeat (go_big_quiet_step (fail))
      refine wpQuiet_nil ?_
      clear Cb6
      refine wpS_does1 (i := 26) (d := some 68) (rem := [_, _, _, _, _, _, _]) (out := [_, _, _, _, _, _, _]) rfl (by rfl) rfl Try.call18 (rnode_d d1) rfl HM116.out [] rfl covS_nil rfl rfl ?_
      rintro W118 hm117 -
      rw [hp3.out]
      have HM119 := Lib.hid hm117
      clear hm117
      simp only [Act.put, List.setIfInBounds_toArray, List.set_cons_succ, List.set_cons_zero]
      have Cb6 := Mem.cell HM119.out 4 rfl
      refine wpS_this [27, 28, 29, 30, 31, 32, 33, 34, 35, 36, 37, 38, 39, 40] rfl (by kernel_rfl) (by simp only [pickL, nthL, List.cons_append, List.nil_append]; rfl) ?_
      repeat (go_big_quiet_step (fail))
      refine wpQuiet_nil ?_
      clear Cb6
      refine wpS_loadA (i := 41) (d := some 83) (cells := vcC (a.k)) rfl (by rfl) rfl rfl (HM119.out.part 6 rfl (bgC_vc)) Try.underlying24 rfl (by kernel_rfl) rfl ?_
      simp only [Act.put, List.setIfInBounds_toArray, List.set_cons_succ, List.set_cons_zero]
      have Cb6 := Mem.cell HM119.out 4 rfl
      refine wpS_this [42] rfl (by kernel_rfl) (by simp only [pickL, nthL, List.cons_append, List.nil_append]; rfl) ?_
      repeat (go_big_quiet_step (fail))
      refine wpQuiet_nil ?_
      clear Cb6
      refine wpS_does2 (i := 43) (d := some 85) (rem := [_, _, _, _, _, _, _]) (out := [_, _, _, _, _, _, _]) rfl (by rfl) rfl Try.call14 (chas_d a.k d1 d2) rfl rfl HM119.out [] rfl covS_nil rfl rfl ?_
      rintro W121 hm120 -
      rw [hp4.out]
      have HM122 := Lib.hid hm120
      clear hm120
      simp only [Act.put, List.setIfInBounds_toArray, List.set_cons_succ, List.set_cons_zero]
      refine wpS_this [44, 45, 46, 47, 48, 49, 50, 51] rfl (by kernel_rfl) (by simp only [pickL, nthL, List.cons_append, List.nil_append]; rfl) ?_
      repeat (go_big_quiet_step (fail))
      refine wpQuiet_nil ?_
      refine wpS_does0 (i := 52) (d := some 94) (rem := [_, _, _, _, _, _, _]) (out := [_, _, _, _, _, _, _]) rfl (by rfl) rfl Try.call8 (bawake_d)  HM122.out [] rfl covS_nil rfl rfl ?_
      rintro W124 hm123 -
      have HM125 := Lib.hid hm123
      clear hm123
      simp only [Act.put, List.setIfInBounds_toArray, List.set_cons_succ, List.set_cons_zero]
      refine wpS_this [53, 54] rfl (by kernel_rfl) (by simp only [pickL, nthL, List.cons_append, List.nil_append]; rfl) ?_
      repeat (go_big_quiet_step (fail))
      refine wpQuiet_nil ?_
      refine wpS_nil ?_
      refine then_normal ?_
      refine wp_ret ?_
      refine then_ret ?_
      refine bodyPost_ret (results_tmp rfl _ _ _) rfl ?_
      exact does_ret (Mem.only (M := [_]) HM125.out [0] rfl) rfl rfl
    · have g5 : decide (d2 < 1) = false := decide_eq_false h5
      have g6 : decide (1000000 < d2) = false := decide_eq_false h6
      have g7 : decide (64 < (t.size : Int)) = true := decide_eq_true (by omega)
      have g7' : decide (64 < t.size) = true := decide_eq_true h7
      replace hp1 := Lib.hid hp1
      replace hp2 := Lib.hid hp2
      replace hp3 := Lib.hid hp3
      replace hp4 := Lib.hid hp4
      replace h5 := Lib.hid h5
      replace h6 := Lib.hid h6
      replace h7 := Lib.hid h7
      subst hx0
      have g0 : ((noB.v.length : Int) == 0) = true := by decide
      have g0' : (noB.v.length == 0) = true := by decide
      refine wp_region_N [(0, 1), (1, 1)] (by kernel_rfl) ?_
      refine wpS_this [0, 1] rfl (by kernel_rfl) (by simp only [pickL, nthL, List.cons_append, List.nil_append]; rfl) ?_
      repeat (go_big_quiet_step (fail))
      refine wpQuiet_nil ?_
      refine wpS_nil ?_
      refine then_normal ?_
      refine wp_cond_true rfl ?_
      refine wp_seq ?_
      refine wp_region_N [(0, 1), (1, 1), (2, 1), (3, 1), (4, 1), (5, 1), (6, 1), (7, 1), (8, 1), (9, 1), (10, 1), (11, 1), (12, 1), (13, 1), (14, 1), (15, 3), (16, 1), (17, 1), (18, 1), (19, 1), (20, 3), (21, 1), (22, 1), (23, 1), (24, 1), (25, 1), (26, 3), (27, 1), (28, 1), (29, 1), (30, 1), (31, 1), (32, 1), (33, 1), (34, 1), (35, 1), (36, 1), (37, 1), (38, 1), (39, 1), (40, 1), (41, 1), (42, 1), (43, 3), (44, 1), (45, 1), (46, 1), (47, 1), (48, 1), (49, 1), (50, 1), (51, 1), (52, 3), (53, 1), (54, 1)] (by kernel_rfl) ?_
      refine wpS_this [0] rfl (by kernel_rfl) (by simp only [pickL, nthL, List.cons_append, List.nil_append]; rfl) ?_
      repeat (go_big_quiet_step (fail))
      refine wpQuiet_nil ?_
      refine wpS_load1 (i := 1) (d := some 43) (u := .slice px noB.v.length cx) rfl (by rfl) rfl rfl (HM56.out.part1 0 rfl bgC_sl) Try.underlying25 rfl rfl ?_
      simp only [Act.put, List.setIfInBounds_toArray, List.set_cons_succ, List.set_cons_zero]
      refine wpS_this [2, 3, 4, 5] rfl (by kernel_rfl) (by simp only [pickL, nthL, List.cons_append, List.nil_append]; rfl) ?_
      repeat (go_big_quiet_step (fail))
      refine wpQuiet_nil ?_
      refine wpS_loadA (i := 6) (d := some 48) (cells := vcC (noB.k)) rfl (by rfl) rfl rfl (HM56.out.part 0 rfl (bgC_vc)) Try.underlying24 rfl (by kernel_rfl) rfl ?_
      simp only [Act.put, List.setIfInBounds_toArray, List.set_cons_succ, List.set_cons_zero]
      refine wpS_this [7] rfl (by kernel_rfl) (by simp only [pickL, nthL, List.cons_append, List.nil_append]; rfl) ?_
      repeat (go_big_quiet_step (fail))
      refine wpQuiet_nil ?_
      refine wpS_read (i := 8) (d := some 50) rfl (by rfl) (run_eqV (eq_self (fun _ => 0)) rfl rfl rfl) rfl ?_
      simp only [Act.put, List.setIfInBounds_toArray, List.set_cons_succ, List.set_cons_zero]
      refine wpS_this [9, 10, 11, 12, 13] rfl (by kernel_rfl) (by simp only [pickL, nthL, List.cons_append, List.nil_append]; rfl) ?_
      repeat (go_big_quiet_step (fail))
      refine wpQuiet_nil ?_
      refine wpS_loadA (i := 14) (d := some 56) (cells := bgC (a.k) (.slice pa a.v.length ca)) rfl (by rfl) rfl rfl (HM56.out.part 6 rfl (bgC_all)) Try.underlying27 rfl (by kernel_rfl) rfl ?_
      simp only [Act.put, List.setIfInBounds_toArray, List.set_cons_succ, List.set_cons_zero]
      refine wpS_does1 (i := 15) (d := some 57) (rem := [_, _, _, _, _, _]) (out := [_, _, _, _, _, _, _]) rfl (by rfl) rfl Try.call12 (bmay_d (oldT W0) _ a (vOld ha) la) rfl HM56.out [2] rfl covS_nil rfl rfl ?_
      rintro W127 hm126 -
      rw [hp1.out]
      have HM128 := Lib.hid hm126
      clear hm126
      simp only [Act.put, List.setIfInBounds_toArray, List.set_cons_succ, List.set_cons_zero]
      refine wpS_this [16, 17, 18] rfl (by kernel_rfl) (by simp only [pickL, nthL, List.cons_append, List.nil_append]; rfl) ?_
      repeat (go_big_quiet_step (fail))
      refine wpQuiet_nil ?_
      refine wpS_loadA (i := 19) (d := some 61) (cells := vcC (k)) rfl (by rfl) rfl rfl (HM128.out.cells0 5 rfl) Try.underlying24 rfl (by kernel_rfl) rfl ?_
      simp only [Act.put, List.setIfInBounds_toArray, List.set_cons_succ, List.set_cons_zero]
      refine wpS_does1 (i := 20) (d := some 62) (rem := [_, _, _, _, _, _, _]) (out := [_, _, _, _, _, _, _]) rfl (by rfl) rfl Try.call17 (cmay_d k) rfl HM128.out [] rfl covS_nil rfl rfl ?_
      rintro W130 hm129 -
      rw [hp2.out]
      have HM131 := Lib.hid hm129
      clear hm129
      simp only [Act.put, List.setIfInBounds_toArray, List.set_cons_succ, List.set_cons_zero]
      have Cb6 := Mem.cell HM131.out 4 rfl
      refine wpS_this [21, 22, 23, 24, 25] rfl (by kernel_rfl) (by simp only [pickL, nthL, List.cons_append, List.nil_append]; rfl) ?_
      repeat (go_big_quiet_step (fail))
      refine wpQuiet_nil ?_
      clear Cb6
      refine wpS_does1 (i := 26) (d := some 68) (rem := [_, _, _, _, _, _, _]) (out := [_, _, _, _, _, _, _]) rfl (by rfl) rfl Try.call18 (rnode_d d1) rfl HM131.out [] rfl covS_nil rfl rfl ?_
      rintro W133 hm132 -
      rw [hp3.out]
      have HM134 := Lib.hid hm132
      clear hm132
      simp only [Act.put, List.setIfInBounds_toArray, List.set_cons_succ, List.set_cons_zero]
      have Cb6 := Mem.cell HM134.out 4 rfl
      refine wpS_this [27, 28, 29, 30, 31, 32, 33, 34, 35, 36, 37, 38, 39, 40] rfl (by kernel_rfl) (by simp only [pickL, nthL, List.cons_append, List.nil_append]; rfl) ?_
      repeat (go_big_quiet_step (fail))
      refine wpQuiet_nil ?_
      clear Cb6
      refine wpS_loadA (i := 41) (d := some 83) (cells := vcC (a.k)) rfl (by rfl) rfl rfl (HM134.out.part 6 rfl (bgC_vc)) Try.underlying24 rfl (by kernel_rfl) rfl ?_
      simp only [Act.put, List.setIfInBounds_toArray, List.set_cons_succ, List.set_cons_zero]
      have Cb6 := Mem.cell HM134.out 4 rfl
      refine wpS_this [42] rfl (by kernel_rfl) (by simp only [pickL, nthL, List.cons_append, List.nil_append]; rfl) ?_
      repeat (go_big_quiet_step (fail))
      refine wpQuiet_nil ?_
      clear Cb6
      refine wpS_does2 (i := 43) (d := some 85) (rem := [_, _, _, _, _, _, _]) (out := [_, _, _, _, _, _, _]) rfl (by rfl) rfl Try.call14 (chas_d a.k d1 d2) rfl rfl HM134.out [] rfl covS_nil rfl rfl ?_
      rintro W136 hm135 -
      rw [hp4.out]
      have HM137 := Lib.hid hm135
      clear hm135
      simp only [Act.put, List.setIfInBounds_toArray, List.set_cons_succ, List.set_cons_zero]
      refine wpS_this [44, 45, 46, 47, 48, 49, 50, 51] rfl (by kernel_rfl) (by simp only [pickL, nthL, List.cons_append, List.nil_append]; rfl) ?_
      repeat (go_big_quiet_step (fail))
      refine wpQuiet_nil ?_
      refine wpS_does0 (i := 52) (d := some 94) (rem := [_, _, _, _, _, _, _]) (out := [_, _, _, _, _, _, _]) rfl (by rfl) rfl Try.call8 (bawake_d)  HM137.out [] rfl covS_nil rfl rfl ?_
      rintro W139 hm138 -
      have HM140 := Lib.hid hm138
      clear hm138
      simp only [Act.put, List.setIfInBounds_toArray, List.set_cons_succ, List.set_cons_zero]
      refine wpS_this [53, 54] rfl (by kernel_rfl) (by simp only [pickL, nthL, List.cons_append, List.nil_append]; rfl) ?_
      repeat (go_big_quiet_step (fail))
      refine wpQuiet_nil ?_
      refine wpS_nil ?_
      refine then_normal ?_
      refine wp_ret ?_
      refine then_ret ?_
      refine bodyPost_ret (results_tmp rfl _ _ _) rfl ?_
      exact does_ret (Mem.only (M := [_]) HM140.out [0] rfl) rfl rfl
    · have hx32 : Hid (x.v.length ≤ 32) := Lib.hid hmx.len
      have hx32v : x.v.length ≤ 32 := hmx.len
      have hf1 : Hid (mayB x = true) := Lib.hid (mayB_iff.2 hmx)
      have hf2 : Hid (hasV x.k (d1, d2) = true) := Lib.hid (by rw [hx0]; exact (put_facts hd).2.1)
      have hf3 : Hid (belowV k x.k = true) := Lib.hid (by rw [hx0]; exact (put_facts (t := t) hd).2.2)
      have hag : Hid (putBR x k (d1, d2) t = (noB, 1)) := Lib.hid (by rw [hx0]; exact put_again hd)
      have hin : Hid (∀ y, y ∈ a.v → (y ∈ x.v ↔ hasV k y.1 = false)) := Lib.hid (fun y hy => by rw [hx0]; exact put_in hma.toPre hn hy)
      have hmem : Hid (((d1, d2), t) ∈ x.v) := Lib.hid (by rw [hx0]; exact (put_facts hd).1)
      have hlen : Hid (x.v.length = leftN k a.v + 1) := Lib.hid (by rw [hx0]; exact put_len _ _ _ _)
      replace hx0 := Lib.hid hx0
      replace hmx := Lib.hid hmx
      replace hma := Lib.hid hma
      replace hd := Lib.hid hd
      replace hn := Lib.hid hn
      refine wp_region_N [(0, 1), (1, 1)] (by kernel_rfl) ?_
      refine wpS_this [0, 1] rfl (by kernel_rfl) (by simp only [pickL, nthL, List.cons_append, List.nil_append]; rfl) ?_
      repeat (go_big_quiet_step (fail))
      refine wpQuiet_nil ?_
      refine wpS_nil ?_
      refine then_normal ?_
      refine wp_cond_false rfl ?_
      refine wp_skip ?_
      refine then_normal ?_
      refine wp_seq ?_
      refine wp_region_N [(0, 1)] (by kernel_rfl) ?_
      refine wpS_this [0] rfl (by kernel_rfl) (by simp only [pickL, nthL, List.cons_append, List.nil_append]; rfl) ?_
      repeat (go_big_quiet_step (fail))
      refine wpQuiet_nil ?_
      refine wpS_nil ?_
      refine then_normal ?_
      refine wp_seq ?_
      refine wp_seq ?_
      refine wp_region_N [(0, 1), (1, 1), (2, 1), (3, 1)] (by kernel_rfl) ?_
      refine wpS_this [0] rfl (by kernel_rfl) (by simp only [pickL, nthL, List.cons_append, List.nil_append]; rfl) ?_
      repeat (go_big_quiet_step (fail))
      refine wpQuiet_nil ?_
      refine wpS_load1 (i := 1) (d := some 97) (u := .slice pa a.v.length ca) rfl (by rfl) rfl rfl (HM56.out.part1 6 rfl bgC_sl) Try.underlying25 rfl rfl ?_
      simp only [Act.put, List.setIfInBounds_toArray, List.set_cons_succ, List.set_cons_zero]
      refine wpS_this [2, 3] rfl (by kernel_rfl) (by simp only [pickL, nthL, List.cons_append, List.nil_append]; rfl) ?_
      repeat (go_big_quiet_step (fail))
      refine wpQuiet_nil ?_
      refine wpS_nil ?_
      refine then_normal ?_
      refine wp_block ?_
      refine wp_loop_F [8, 11, 13, 14, 16, 99, 100, 101, 102, 103, 104, 105, 106, 107, 108, 109, 110, 111, 112, 113, 114, 115, 116, 117, 118, 119, 120, 121, 122, 123, 124, 125, 126] (fun n vs W' => ∃ (q m : Nat), n = a.v.length - q ∧ vs 99 = .int .i64 (q : Int) ∧ vs 11 = .int .i64 ((m : Int) + 1) ∧ m = leftN k (a.v.take q) ∧ q ≤ a.v.length ∧ Mem [rowT elemV (.slice px x.v.length cx) x.v, boxT b52 (.cells (bgC x.k (.slice px x.v.length cx)).toArray 27 (0, 0)), boxT b11 (.cells #[.int .i64 d1, .int .i64 d2] 39 (0, 0)), boxT b7 (.cells (vcC (k)).toArray 24 (0, 0)), boxT b3 (.cells (bgC a.k (.slice pa a.v.length ca)).toArray 27 (0, 0)), oldT W0] H w W') (n0 := a.v.length) ?_ ?_
      · exact ⟨0, 0, rfl, rfl, rfl, rfl, Nat.zero_le _, (Mem.only (M := [_, _, _, _, _, _]) HM56.out [1, 0, 2, 2, 2, 0] rfl)⟩
      rintro n vs W' ⟨q, m, rfl, e99, e11, hmN', hq, hm1⟩
      simp only [putAll, List.map_cons, List.map_nil, Act.put, List.setIfInBounds_toArray, List.set_cons_succ, List.set_cons_zero]
      rw [e99, e11]
      clear e99 e11
      have hmq : m ≤ q := by rw [hmN']; exact leftN_le _ _ _
      have hmN := Lib.hid hmN'
      clear hmN'
      have HM141 := Lib.hid hm1
      clear hm1
      refine wp_seq ?_
      refine wp_region_N [(0, 1)] (by kernel_rfl) ?_
      refine wpS_this [0] rfl (by kernel_rfl) (by simp only [pickL, nthL, List.cons_append, List.nil_append]; rfl) ?_
      repeat (go_big_quiet_step (fail))
      refine wpQuiet_nil ?_
      refine wpS_nil ?_
      refine then_normal ?_
      refine wp_seq ?_
      refine wp_cond_split rfl (fun h142 => ?_) (fun h142 => ?_)
      · have hq1 : q + 1 ≤ a.v.length := by have : (q : Int) < ((a.v.length : Nat) : Int) := (by simpa using h142); omega
        clear h142
        obtain ⟨y, hy'⟩ : ∃ y, a.v[q]? = some y := ⟨_, List.getElem?_eq_getElem (hq1)⟩
        have hy := Lib.hid hy'
        clear hy'
        refine wp_skip ?_
        refine then_normal ?_
        refine wp_seq ?_
        refine wp_block ?_
        refine wp_seq ?_
        refine wp_region_N [(0, 1), (1, 1), (2, 3), (3, 3)] (by kernel_rfl) ?_
        refine wpS_index (E := elemV) (i := 0) (d := some 101) rfl (by rfl) rfl rfl rfl (HM141.out.row 5 rfl (rOld ha)) (hy.out) rfl ?_
        intro eb143 eo144 hc145
        simp only [Act.put, List.setIfInBounds_toArray, List.set_cons_succ, List.set_cons_zero]
        refine wpS_loadA (i := 1) (d := some 102) (cells := [.int .i64 y.1.1, .int .i64 y.1.2, .string y.2]) rfl (by rfl) rfl rfl hc145 Try.underlying41 rfl (by kernel_rfl) rfl ?_
        simp only [Act.put, List.setIfInBounds_toArray, List.set_cons_succ, List.set_cons_zero]
        refine wpS_alloc (i := 2) (dd := 13) (z := .agg #[.int .i64 0, .int .i64 0, .string ByteArray.empty]) (cs := #[.int .i64 0, .int .i64 0, .string ByteArray.empty]) rfl (by rfl) rfl (by kernel_rfl) rfl HM141.out covS_nil rfl ?_
        rintro b148 W147 hm146 -
        have HM149 := Lib.hid hm146
        clear hm146
        simp only [Act.put, List.setIfInBounds_toArray, List.set_cons_succ, List.set_cons_zero]
        refine wpS_storeA (i := 3) (L2 := [_, _, _, _, _, _]) (cs' := [.int .i64 y.1.1, .int .i64 y.1.2, .string y.2]) rfl (by rfl) rfl rfl rfl (by kernel_rfl) (by rfl) HM149.out 0 rfl rfl rfl rfl covS_nil rfl ?_
        rintro W151 hm150 -
        have HM152 := Lib.hid hm150
        clear hm150
        refine wpS_nil ?_
        refine then_normal ?_
        refine wp_seq ?_
        refine wp_region_N [(0, 1)] (by kernel_rfl) ?_
        refine wpS_this [0] rfl (by kernel_rfl) (by simp only [pickL, nthL, List.cons_append, List.nil_append]; rfl) ?_
        repeat (go_big_quiet_step (fail))
        refine wpQuiet_nil ?_
        refine wpS_nil ?_
        refine then_normal ?_
        refine wp_seq ?_
        refine wp_seq ?_
        refine wp_region_N [(0, 1), (1, 1), (2, 1), (3, 1)] (by kernel_rfl) ?_
        refine wpS_this [0] rfl (by kernel_rfl) (by simp only [pickL, nthL, List.cons_append, List.nil_append]; rfl) ?_
        repeat (go_big_quiet_step (fail))
        refine wpQuiet_nil ?_
        refine wpS_load1 (i := 1) (d := some 104) (u := .slice px x.v.length cx) rfl (by rfl) rfl rfl (HM152.out.part1 2 rfl bgC_sl) Try.underlying25 rfl rfl ?_
        simp only [Act.put, List.setIfInBounds_toArray, List.set_cons_succ, List.set_cons_zero]
        refine wpS_this [2, 3] rfl (by kernel_rfl) (by simp only [pickL, nthL, List.cons_append, List.nil_append]; rfl) ?_
        repeat (go_big_quiet_step (fail))
        refine wpQuiet_nil ?_
        refine wpS_nil ?_
        refine then_normal ?_
        refine wp_block ?_
        refine wp_loop_F [14, 16, 106, 107, 108, 109, 110, 111, 112, 113, 114, 115, 116] (fun n ws W' => ∃ i : Nat, n = x.v.length - i ∧ ws 106 = .int .i64 (i : Int) ∧ ws 14 = .bool (heldV (x.v.take i) y) ∧ i ≤ x.v.length ∧ Mem [boxT b148 (.cells #[.int .i64 y.1.1, .int .i64 y.1.2, .string y.2] 41 (0, 0)), rowT elemV (.slice px x.v.length cx) x.v, boxT b52 (.cells (bgC x.k (.slice px x.v.length cx)).toArray 27 (0, 0)), boxT b11 (.cells #[.int .i64 d1, .int .i64 d2] 39 (0, 0)), boxT b7 (.cells (vcC (k)).toArray 24 (0, 0)), boxT b3 (.cells (bgC a.k (.slice pa a.v.length ca)).toArray 27 (0, 0)), oldT W0] H w W') (n0 := x.v.length) ?_ ?_
        · exact ⟨0, rfl, rfl, rfl, Nat.zero_le _, (Mem.only (M := [_, _, _, _, _, _, _]) HM152.out [0, 0, 0, 0, 0, 0, 0] rfl)⟩
        rintro n ws W' ⟨i, rfl, e106, e14, hi, hm2⟩
        simp only [putAll, List.map_cons, List.map_nil, Act.put, List.setIfInBounds_toArray, List.set_cons_succ, List.set_cons_zero]
        rw [e106, e14]
        clear e106 e14
        obtain ⟨c, hc'⟩ := bool_letter (heldV (x.v.take i) y)
        rw [hc']
        have hc := Lib.hid hc'
        clear hc'
        have HM153 := Lib.hid hm2
        clear hm2
        refine wp_seq ?_
        refine wp_region_N [(0, 1)] (by kernel_rfl) ?_
        refine wpS_this [0] rfl (by kernel_rfl) (by simp only [pickL, nthL, List.cons_append, List.nil_append]; rfl) ?_
        repeat (go_big_quiet_step (fail))
        refine wpQuiet_nil ?_
        refine wpS_nil ?_
        refine then_normal ?_
        refine wp_seq ?_
        refine wp_cond_split rfl (fun h154 => ?_) (fun h154 => ?_)
        · have hi1 : i + 1 ≤ x.v.length := by have : (i : Int) < ((x.v.length : Nat) : Int) := (by simpa using h154); omega
          clear h154
          obtain ⟨u, hu'⟩ : ∃ y, x.v[i]? = some y := ⟨_, List.getElem?_eq_getElem (hi1)⟩
          have hu := Lib.hid hu'
          clear hu'
          refine wp_skip ?_
          refine then_normal ?_
          refine wp_seq ?_
          refine wp_block ?_
          refine wp_seq ?_
          refine wp_region_N [(0, 1), (1, 1), (2, 3), (3, 3)] (by kernel_rfl) ?_
          refine wpS_index (E := elemV) (i := 0) (d := some 108) rfl (by rfl) rfl rfl rfl (HM153.out.row 1 rfl vRow) (hu.out) rfl ?_
          intro eb155 eo156 hc157
          simp only [Act.put, List.setIfInBounds_toArray, List.set_cons_succ, List.set_cons_zero]
          refine wpS_loadA (i := 1) (d := some 109) (cells := [.int .i64 u.1.1, .int .i64 u.1.2, .string u.2]) rfl (by rfl) rfl rfl hc157 Try.underlying41 rfl (by kernel_rfl) rfl ?_
          simp only [Act.put, List.setIfInBounds_toArray, List.set_cons_succ, List.set_cons_zero]
          refine wpS_alloc (i := 2) (dd := 16) (z := .agg #[.int .i64 0, .int .i64 0, .string ByteArray.empty]) (cs := #[.int .i64 0, .int .i64 0, .string ByteArray.empty]) rfl (by rfl) rfl (by kernel_rfl) rfl HM153.out covS_nil rfl ?_
          rintro b160 W159 hm158 -
          have HM161 := Lib.hid hm158
          clear hm158
          simp only [Act.put, List.setIfInBounds_toArray, List.set_cons_succ, List.set_cons_zero]
          refine wpS_storeA (i := 3) (L2 := [_, _, _, _, _, _, _]) (cs' := [.int .i64 u.1.1, .int .i64 u.1.2, .string u.2]) rfl (by rfl) rfl rfl rfl (by kernel_rfl) (by rfl) HM161.out 0 rfl rfl rfl rfl covS_nil rfl ?_
          rintro W163 hm162 -
          have HM164 := Lib.hid hm162
          clear hm162
          refine wpS_nil ?_
          refine then_normal ?_
          rcases (show c = true ∨ (c = false ∧ u = y) ∨ (c = false ∧ u ≠ y) from by cases c <;> by_cases h0 : u = y <;> simp [h0]) with rfl | ⟨rfl, he⟩ | ⟨rfl, he⟩
          · refine wp_region_N [(0, 1), (1, 1), (2, 1), (3, 1), (4, 1), (5, 1), (6, 1)] (by kernel_rfl) ?_
            have Cb16 := Mem.cell HM164.out 0 rfl
            have Cb13 := Mem.cell HM164.out 1 rfl
            refine wpS_this [0, 1, 2, 3] rfl (by kernel_rfl) (by simp only [pickL, nthL, List.cons_append, List.nil_append]; rfl) ?_
            repeat (go_big_quiet_step (fail))
            refine wpQuiet_nil ?_
            clear Cb16 Cb13
            refine wpS_skip (i := 4) (d := some 114) rfl (by rfl) rfl ?_
            simp only [Act.put, List.setIfInBounds_toArray, List.set_cons_succ, List.set_cons_zero]
            refine wpS_this [5, 6] rfl (by kernel_rfl) (by simp only [pickL, nthL, List.cons_append, List.nil_append]; rfl) ?_
            repeat (go_big_quiet_step (fail))
            refine wpQuiet_nil ?_
            refine wpS_nil ?_
            refine block_normal ?_
            refine then_normal ?_
            refine wp_region_N [(0, 1), (1, 1)] (by kernel_rfl) ?_
            refine wpS_this [0, 1] rfl (by kernel_rfl) (by simp only [pickL, nthL, List.cons_append, List.nil_append]; rfl) ?_
            repeat (go_big_quiet_step (fail))
            refine wpQuiet_nil ?_
            refine wpS_nil ?_
            refine then_normal ?_
            refine ⟨by kernel_rfl, ?_⟩
            refine ⟨x.v.length - (i + 1), by omega, i + 1, rfl, rfl, ?_, hi1, (Mem.only (M := [_, _, _, _, _, _, _]) HM164.out [1, 1, 1, 1, 1, 1, 1] rfl)⟩
            rw [heldV_step hu.out (y), hc.out]
            rfl
          · have g1 := decide_eq_true he
            replace he := Lib.hid he
            refine wp_region_N [(0, 1), (1, 1), (2, 1), (3, 1), (4, 1), (5, 1), (6, 1)] (by kernel_rfl) ?_
            have Cb16 := Mem.cell HM164.out 0 rfl
            have Cb13 := Mem.cell HM164.out 1 rfl
            refine wpS_this [0, 1, 2, 3] rfl (by kernel_rfl) (by simp only [pickL, nthL, List.cons_append, List.nil_append]; rfl) ?_
            repeat (go_big_quiet_step (fail))
            refine wpQuiet_nil ?_
            clear Cb16 Cb13
            refine wpS_read (i := 4) (d := some 114) rfl (by rfl) (run_eqVl (g1) rfl rfl rfl) rfl ?_
            simp only [Act.put, List.setIfInBounds_toArray, List.set_cons_succ, List.set_cons_zero]
            refine wpS_this [5, 6] rfl (by kernel_rfl) (by simp only [pickL, nthL, List.cons_append, List.nil_append]; rfl) ?_
            repeat (go_big_quiet_step (fail))
            refine wpQuiet_nil ?_
            refine wpS_nil ?_
            refine block_normal ?_
            refine then_normal ?_
            refine wp_region_N [(0, 1), (1, 1)] (by kernel_rfl) ?_
            refine wpS_this [0, 1] rfl (by kernel_rfl) (by simp only [pickL, nthL, List.cons_append, List.nil_append]; rfl) ?_
            repeat (go_big_quiet_step (fail))
            refine wpQuiet_nil ?_
            refine wpS_nil ?_
            refine then_normal ?_
            refine ⟨by kernel_rfl, ?_⟩
            refine ⟨x.v.length - (i + 1), by omega, i + 1, rfl, rfl, ?_, hi1, (Mem.only (M := [_, _, _, _, _, _, _]) HM164.out [1, 1, 1, 1, 1, 1, 1] rfl)⟩
            rw [heldV_step hu.out (y), hc.out]
            rw [decide_eq_true he.out]
            rfl
          · have g1 := decide_eq_false he
            replace he := Lib.hid he
            refine wp_region_N [(0, 1), (1, 1), (2, 1), (3, 1), (4, 1), (5, 1), (6, 1)] (by kernel_rfl) ?_
            have Cb16 := Mem.cell HM164.out 0 rfl
            have Cb13 := Mem.cell HM164.out 1 rfl
            refine wpS_this [0, 1, 2, 3] rfl (by kernel_rfl) (by simp only [pickL, nthL, List.cons_append, List.nil_append]; rfl) ?_
            repeat (go_big_quiet_step (fail))
            refine wpQuiet_nil ?_
            clear Cb16 Cb13
            refine wpS_read (i := 4) (d := some 114) rfl (by rfl) (run_eqVl (g1) rfl rfl rfl) rfl ?_
            simp only [Act.put, List.setIfInBounds_toArray, List.set_cons_succ, List.set_cons_zero]
            refine wpS_this [5, 6] rfl (by kernel_rfl) (by simp only [pickL, nthL, List.cons_append, List.nil_append]; rfl) ?_
            repeat (go_big_quiet_step (fail))
            refine wpQuiet_nil ?_
            refine wpS_nil ?_
            refine block_normal ?_
            refine then_normal ?_
            refine wp_region_N [(0, 1), (1, 1)] (by kernel_rfl) ?_
            refine wpS_this [0, 1] rfl (by kernel_rfl) (by simp only [pickL, nthL, List.cons_append, List.nil_append]; rfl) ?_
            repeat (go_big_quiet_step (fail))
            refine wpQuiet_nil ?_
            refine wpS_nil ?_
            refine then_normal ?_
            refine ⟨by kernel_rfl, ?_⟩
            refine ⟨x.v.length - (i + 1), by omega, i + 1, rfl, rfl, ?_, hi1, (Mem.only (M := [_, _, _, _, _, _, _]) HM164.out [1, 1, 1, 1, 1, 1, 1] rfl)⟩
            rw [heldV_step hu.out (y), hc.out]
            rw [decide_eq_false he.out]
            rfl
        · have hge2 : Hid (x.v.length ≤ i) := Lib.hid (by have : ¬ (i : Int) < ((x.v.length : Nat) : Int) := (by simpa using h154); omega)
          clear h154
          refine wp_exit ?_
          refine then_exit (then_exit (block_exit ?_))
          refine then_normal ?_
          refine wp_seq ?_
          refine wp_seq ?_
          rcases (show (c = true ∧ hasV k y.1 = false) ∨ (c = false ∧ hasV k y.1 = true) from by
              rw [← hc.out, List.take_of_length_le hge2.out]
              have h0 := hin.out y (List.mem_of_getElem? hy.out)
              cases h1 : hasV k y.1
              · exact .inl ⟨heldV_iff.2 (h0.2 h1), rfl⟩
              · refine .inr ⟨?_, rfl⟩
                rw [← Bool.not_eq_true, heldV_iff, h0, h1]
                exact fun q => by cases q) with ⟨rfl, hs⟩ | ⟨rfl, hs⟩
          · replace hs := Lib.hid hs
            refine wp_region_N [(0, 1), (1, 1), (2, 1), (3, 1), (4, 3), (5, 1)] (by kernel_rfl) ?_
            refine wpS_this [0] rfl (by kernel_rfl) (by simp only [pickL, nthL, List.cons_append, List.nil_append]; rfl) ?_
            repeat (go_big_quiet_step (fail))
            refine wpQuiet_nil ?_
            refine wpS_loadA (i := 1) (d := some 118) (cells := vcC (k)) rfl (by rfl) rfl rfl (HM153.out.cells0 4 rfl) Try.underlying24 rfl (by kernel_rfl) rfl ?_
            simp only [Act.put, List.setIfInBounds_toArray, List.set_cons_succ, List.set_cons_zero]
            have Cb13 := Mem.cell HM153.out 0 rfl
            refine wpS_this [2, 3] rfl (by kernel_rfl) (by simp only [pickL, nthL, List.cons_append, List.nil_append]; rfl) ?_
            repeat (go_big_quiet_step (fail))
            refine wpQuiet_nil ?_
            clear Cb13
            refine wpS_does2 (i := 4) (d := some 121) (rem := [_, _, _, _, _, _, _]) (out := [_, _, _, _, _, _, _]) rfl (by rfl) rfl Try.call14 (chas_d k y.1.1 y.1.2) rfl rfl HM153.out [] rfl covS_nil rfl rfl ?_
            rintro W166 hm165 -
            rw [show hasV k (y.1.1, y.1.2) = _ from hs.out]
            have HM167 := Lib.hid hm165
            clear hm165
            simp only [Act.put, List.setIfInBounds_toArray, List.set_cons_succ, List.set_cons_zero]
            refine wpS_this [5] rfl (by kernel_rfl) (by simp only [pickL, nthL, List.cons_append, List.nil_append]; rfl) ?_
            repeat (go_big_quiet_step (fail))
            refine wpQuiet_nil ?_
            refine wpS_nil ?_
            refine then_normal ?_
            refine wp_cond_false rfl ?_
            refine wp_skip ?_
            refine then_normal ?_
            refine wp_seq ?_
            refine wp_region_N [(0, 1)] (by kernel_rfl) ?_
            refine wpS_this [0] rfl (by kernel_rfl) (by simp only [pickL, nthL, List.cons_append, List.nil_append]; rfl) ?_
            repeat (go_big_quiet_step (fail))
            refine wpQuiet_nil ?_
            refine wpS_nil ?_
            refine then_normal ?_
            refine wp_cond_true rfl ?_
            refine wp_region_N [(0, 1), (1, 1), (2, 1)] (by kernel_rfl) ?_
            refine wpS_this [0, 1, 2] rfl (by kernel_rfl) (by simp only [pickL, nthL, List.cons_append, List.nil_append]; rfl) ?_
            repeat (go_big_quiet_step (fail))
            refine wpQuiet_nil ?_
            refine wpS_nil ?_
            refine block_normal ?_
            refine then_normal ?_
            refine wp_region_N [(0, 1), (1, 1)] (by kernel_rfl) ?_
            refine wpS_this [0, 1] rfl (by kernel_rfl) (by simp only [pickL, nthL, List.cons_append, List.nil_append]; rfl) ?_
            repeat (go_big_quiet_step (fail))
            refine wpQuiet_nil ?_
            refine wpS_nil ?_
            refine then_normal ?_
            refine ⟨by kernel_rfl, ?_⟩
            refine ⟨a.v.length - (q + 1), by omega, q + 1, m + 1, rfl, rfl, rfl, ?_, hq1, (Mem.only (M := [_, _, _, _, _, _]) HM167.out [1, 1, 1, 1, 1, 1] rfl)⟩
            rw [leftN_step hy.out, ← hmN.out, hs.out]
            rfl
          · replace hs := Lib.hid hs
            refine wp_region_N [(0, 1), (1, 1), (2, 1), (3, 1), (4, 3), (5, 1)] (by kernel_rfl) ?_
            refine wpS_this [0] rfl (by kernel_rfl) (by simp only [pickL, nthL, List.cons_append, List.nil_append]; rfl) ?_
            repeat (go_big_quiet_step (fail))
            refine wpQuiet_nil ?_
            refine wpS_loadA (i := 1) (d := some 118) (cells := vcC (k)) rfl (by rfl) rfl rfl (HM153.out.cells0 4 rfl) Try.underlying24 rfl (by kernel_rfl) rfl ?_
            simp only [Act.put, List.setIfInBounds_toArray, List.set_cons_succ, List.set_cons_zero]
            have Cb13 := Mem.cell HM153.out 0 rfl
            refine wpS_this [2, 3] rfl (by kernel_rfl) (by simp only [pickL, nthL, List.cons_append, List.nil_append]; rfl) ?_
            repeat (go_big_quiet_step (fail))
            refine wpQuiet_nil ?_
            clear Cb13
            refine wpS_does2 (i := 4) (d := some 121) (rem := [_, _, _, _, _, _, _]) (out := [_, _, _, _, _, _, _]) rfl (by rfl) rfl Try.call14 (chas_d k y.1.1 y.1.2) rfl rfl HM153.out [] rfl covS_nil rfl rfl ?_
            rintro W169 hm168 -
            rw [show hasV k (y.1.1, y.1.2) = _ from hs.out]
            have HM170 := Lib.hid hm168
            clear hm168
            simp only [Act.put, List.setIfInBounds_toArray, List.set_cons_succ, List.set_cons_zero]
            refine wpS_this [5] rfl (by kernel_rfl) (by simp only [pickL, nthL, List.cons_append, List.nil_append]; rfl) ?_
            repeat (go_big_quiet_step (fail))
            refine wpQuiet_nil ?_
            refine wpS_nil ?_
            refine then_normal ?_
            refine wp_cond_false rfl ?_
            refine wp_skip ?_
            refine then_normal ?_
            refine wp_seq ?_
            refine wp_region_N [(0, 1)] (by kernel_rfl) ?_
            refine wpS_this [0] rfl (by kernel_rfl) (by simp only [pickL, nthL, List.cons_append, List.nil_append]; rfl) ?_
            repeat (go_big_quiet_step (fail))
            refine wpQuiet_nil ?_
            refine wpS_nil ?_
            refine then_normal ?_
            refine wp_cond_false rfl ?_
            refine wp_skip ?_
            refine block_normal ?_
            refine then_normal ?_
            refine wp_region_N [(0, 1), (1, 1)] (by kernel_rfl) ?_
            refine wpS_this [0, 1] rfl (by kernel_rfl) (by simp only [pickL, nthL, List.cons_append, List.nil_append]; rfl) ?_
            repeat (go_big_quiet_step (fail))
            refine wpQuiet_nil ?_
            refine wpS_nil ?_
            refine then_normal ?_
            refine ⟨by kernel_rfl, ?_⟩
            refine ⟨a.v.length - (q + 1), by omega, q + 1, m, rfl, rfl, rfl, ?_, hq1, (Mem.only (M := [_, _, _, _, _, _]) HM170.out [1, 1, 1, 1, 1, 1] rfl)⟩
            rw [leftN_step hy.out, ← hmN.out, hs.out]
            rfl
      · have hge1 : Hid (a.v.length ≤ q) := Lib.hid (by have : ¬ (q : Int) < ((a.v.length : Nat) : Int) := (by simpa using h142); omega)
        clear h142
        refine wp_exit ?_
        refine then_exit (then_exit (block_exit ?_))
        refine then_normal ?_
        refine wp_seq ?_
        refine wp_region_N [(0, 1)] (by kernel_rfl) ?_
        refine wpS_this [0] rfl (by kernel_rfl) (by simp only [pickL, nthL, List.cons_append, List.nil_append]; rfl) ?_
        repeat (go_big_quiet_step (fail))
        refine wpQuiet_nil ?_
        refine wpS_nil ?_
        refine then_normal ?_
        refine wp_seq ?_
        refine wp_seq ?_
        refine wp_region_N [(0, 1), (1, 1), (2, 1), (3, 1)] (by kernel_rfl) ?_
        refine wpS_this [0] rfl (by kernel_rfl) (by simp only [pickL, nthL, List.cons_append, List.nil_append]; rfl) ?_
        repeat (go_big_quiet_step (fail))
        refine wpQuiet_nil ?_
        refine wpS_load1 (i := 1) (d := some 128) (u := .slice px x.v.length cx) rfl (by rfl) rfl rfl (HM141.out.part1 1 rfl bgC_sl) Try.underlying25 rfl rfl ?_
        simp only [Act.put, List.setIfInBounds_toArray, List.set_cons_succ, List.set_cons_zero]
        refine wpS_this [2, 3] rfl (by kernel_rfl) (by simp only [pickL, nthL, List.cons_append, List.nil_append]; rfl) ?_
        repeat (go_big_quiet_step (fail))
        refine wpQuiet_nil ?_
        refine wpS_nil ?_
        refine then_normal ?_
        refine wp_block ?_
        refine wp_loop_F [17, 19, 130, 131, 132, 133, 134, 135, 136, 137, 138, 139, 140, 141, 142] (fun n ts W' => ∃ j : Nat, n = x.v.length - j ∧ ts 130 = .int .i64 (j : Int) ∧ ts 17 = .bool (heldV (x.v.take j) ((d1, d2), t)) ∧ j ≤ x.v.length ∧ Mem [rowT elemV (.slice px x.v.length cx) x.v, boxT b52 (.cells (bgC x.k (.slice px x.v.length cx)).toArray 27 (0, 0)), boxT b11 (.cells #[.int .i64 d1, .int .i64 d2] 39 (0, 0)), boxT b7 (.cells (vcC (k)).toArray 24 (0, 0)), boxT b3 (.cells (bgC a.k (.slice pa a.v.length ca)).toArray 27 (0, 0)), oldT W0] H w W') (n0 := x.v.length) ?_ ?_
        · exact ⟨0, rfl, rfl, rfl, Nat.zero_le _, (Mem.only (M := [_, _, _, _, _, _]) HM141.out [0, 0, 0, 0, 0, 0] rfl)⟩
        rintro n ts W' ⟨j, rfl, e130, e17, hj, hm3⟩
        simp only [putAll, List.map_cons, List.map_nil, Act.put, List.setIfInBounds_toArray, List.set_cons_succ, List.set_cons_zero]
        rw [e130, e17]
        clear e130 e17
        obtain ⟨c, hc'⟩ := bool_letter (heldV (x.v.take j) ((d1, d2), t))
        rw [hc']
        have hc := Lib.hid hc'
        clear hc'
        have HM171 := Lib.hid hm3
        clear hm3
        refine wp_seq ?_
        refine wp_region_N [(0, 1)] (by kernel_rfl) ?_
        refine wpS_this [0] rfl (by kernel_rfl) (by simp only [pickL, nthL, List.cons_append, List.nil_append]; rfl) ?_
        repeat (go_big_quiet_step (fail))
        refine wpQuiet_nil ?_
        refine wpS_nil ?_
        refine then_normal ?_
        refine wp_seq ?_
        refine wp_cond_split rfl (fun h172 => ?_) (fun h172 => ?_)
        · have hj1 : j + 1 ≤ x.v.length := by have : (j : Int) < ((x.v.length : Nat) : Int) := (by simpa using h172); omega
          clear h172
          obtain ⟨u, hu'⟩ : ∃ y, x.v[j]? = some y := ⟨_, List.getElem?_eq_getElem (hj1)⟩
          have hu := Lib.hid hu'
          clear hu'
          refine wp_skip ?_
          refine then_normal ?_
          refine wp_seq ?_
          refine wp_block ?_
          refine wp_seq ?_
          refine wp_region_N [(0, 1), (1, 1), (2, 3), (3, 3)] (by kernel_rfl) ?_
          refine wpS_index (E := elemV) (i := 0) (d := some 132) rfl (by rfl) rfl rfl rfl (HM171.out.row 0 rfl vRow) (hu.out) rfl ?_
          intro eb173 eo174 hc175
          simp only [Act.put, List.setIfInBounds_toArray, List.set_cons_succ, List.set_cons_zero]
          refine wpS_loadA (i := 1) (d := some 133) (cells := [.int .i64 u.1.1, .int .i64 u.1.2, .string u.2]) rfl (by rfl) rfl rfl hc175 Try.underlying41 rfl (by kernel_rfl) rfl ?_
          simp only [Act.put, List.setIfInBounds_toArray, List.set_cons_succ, List.set_cons_zero]
          refine wpS_alloc (i := 2) (dd := 19) (z := .agg #[.int .i64 0, .int .i64 0, .string ByteArray.empty]) (cs := #[.int .i64 0, .int .i64 0, .string ByteArray.empty]) rfl (by rfl) rfl (by kernel_rfl) rfl HM171.out covS_nil rfl ?_
          rintro b178 W177 hm176 -
          have HM179 := Lib.hid hm176
          clear hm176
          simp only [Act.put, List.setIfInBounds_toArray, List.set_cons_succ, List.set_cons_zero]
          refine wpS_storeA (i := 3) (L2 := [_, _, _, _, _, _]) (cs' := [.int .i64 u.1.1, .int .i64 u.1.2, .string u.2]) rfl (by rfl) rfl rfl rfl (by kernel_rfl) (by rfl) HM179.out 0 rfl rfl rfl rfl covS_nil rfl ?_
          rintro W181 hm180 -
          have HM182 := Lib.hid hm180
          clear hm180
          refine wpS_nil ?_
          refine then_normal ?_
          rcases (show c = true ∨ (c = false ∧ u = ((d1, d2), t)) ∨ (c = false ∧ u ≠ ((d1, d2), t)) from by cases c <;> by_cases h0 : u = ((d1, d2), t) <;> simp [h0]) with rfl | ⟨rfl, he⟩ | ⟨rfl, he⟩
          · refine wp_region_N [(0, 1), (1, 1), (2, 1), (3, 1), (4, 1), (5, 1), (6, 1), (7, 1), (8, 1)] (by kernel_rfl) ?_
            have Cb19 := Mem.cell HM182.out 0 rfl
            have Cb6 := Mem.cell HM182.out 3 rfl
            refine wpS_this [0, 1, 2, 3, 4, 5] rfl (by kernel_rfl) (by simp only [pickL, nthL, List.cons_append, List.nil_append]; rfl) ?_
            repeat (go_big_quiet_step (fail))
            refine wpQuiet_nil ?_
            clear Cb19 Cb6
            refine wpS_skip (i := 6) (d := some 140) rfl (by rfl) rfl ?_
            simp only [Act.put, List.setIfInBounds_toArray, List.set_cons_succ, List.set_cons_zero]
            refine wpS_this [7, 8] rfl (by kernel_rfl) (by simp only [pickL, nthL, List.cons_append, List.nil_append]; rfl) ?_
            repeat (go_big_quiet_step (fail))
            refine wpQuiet_nil ?_
            refine wpS_nil ?_
            refine block_normal ?_
            refine then_normal ?_
            refine wp_region_N [(0, 1), (1, 1)] (by kernel_rfl) ?_
            refine wpS_this [0, 1] rfl (by kernel_rfl) (by simp only [pickL, nthL, List.cons_append, List.nil_append]; rfl) ?_
            repeat (go_big_quiet_step (fail))
            refine wpQuiet_nil ?_
            refine wpS_nil ?_
            refine then_normal ?_
            refine ⟨by kernel_rfl, ?_⟩
            refine ⟨x.v.length - (j + 1), by omega, j + 1, rfl, rfl, ?_, hj1, (Mem.only (M := [_, _, _, _, _, _]) HM182.out [1, 1, 1, 1, 1, 1] rfl)⟩
            rw [heldV_step hu.out (((d1, d2), t)), hc.out]
            rfl
          · have g1 := decide_eq_true he
            replace he := Lib.hid he
            refine wp_region_N [(0, 1), (1, 1), (2, 1), (3, 1), (4, 1), (5, 1), (6, 1), (7, 1), (8, 1)] (by kernel_rfl) ?_
            have Cb19 := Mem.cell HM182.out 0 rfl
            have Cb6 := Mem.cell HM182.out 3 rfl
            refine wpS_this [0, 1, 2, 3, 4, 5] rfl (by kernel_rfl) (by simp only [pickL, nthL, List.cons_append, List.nil_append]; rfl) ?_
            repeat (go_big_quiet_step (fail))
            refine wpQuiet_nil ?_
            clear Cb19 Cb6
            refine wpS_read (i := 6) (d := some 140) rfl (by rfl) (run_eqVl (g1) rfl rfl rfl) rfl ?_
            simp only [Act.put, List.setIfInBounds_toArray, List.set_cons_succ, List.set_cons_zero]
            refine wpS_this [7, 8] rfl (by kernel_rfl) (by simp only [pickL, nthL, List.cons_append, List.nil_append]; rfl) ?_
            repeat (go_big_quiet_step (fail))
            refine wpQuiet_nil ?_
            refine wpS_nil ?_
            refine block_normal ?_
            refine then_normal ?_
            refine wp_region_N [(0, 1), (1, 1)] (by kernel_rfl) ?_
            refine wpS_this [0, 1] rfl (by kernel_rfl) (by simp only [pickL, nthL, List.cons_append, List.nil_append]; rfl) ?_
            repeat (go_big_quiet_step (fail))
            refine wpQuiet_nil ?_
            refine wpS_nil ?_
            refine then_normal ?_
            refine ⟨by kernel_rfl, ?_⟩
            refine ⟨x.v.length - (j + 1), by omega, j + 1, rfl, rfl, ?_, hj1, (Mem.only (M := [_, _, _, _, _, _]) HM182.out [1, 1, 1, 1, 1, 1] rfl)⟩
            rw [heldV_step hu.out (((d1, d2), t)), hc.out]
            rw [decide_eq_true he.out]
            rfl
          · have g1 := decide_eq_false he
            replace he := Lib.hid he
            refine wp_region_N [(0, 1), (1, 1), (2, 1), (3, 1), (4, 1), (5, 1), (6, 1), (7, 1), (8, 1)] (by kernel_rfl) ?_
            have Cb19 := Mem.cell HM182.out 0 rfl
            have Cb6 := Mem.cell HM182.out 3 rfl
            refine wpS_this [0, 1, 2, 3, 4, 5] rfl (by kernel_rfl) (by simp only [pickL, nthL, List.cons_append, List.nil_append]; rfl) ?_
            repeat (go_big_quiet_step (fail))
            refine wpQuiet_nil ?_
            clear Cb19 Cb6
            refine wpS_read (i := 6) (d := some 140) rfl (by rfl) (run_eqVl (g1) rfl rfl rfl) rfl ?_
            simp only [Act.put, List.setIfInBounds_toArray, List.set_cons_succ, List.set_cons_zero]
            refine wpS_this [7, 8] rfl (by kernel_rfl) (by simp only [pickL, nthL, List.cons_append, List.nil_append]; rfl) ?_
            repeat (go_big_quiet_step (fail))
            refine wpQuiet_nil ?_
            refine wpS_nil ?_
            refine block_normal ?_
            refine then_normal ?_
            refine wp_region_N [(0, 1), (1, 1)] (by kernel_rfl) ?_
            refine wpS_this [0, 1] rfl (by kernel_rfl) (by simp only [pickL, nthL, List.cons_append, List.nil_append]; rfl) ?_
            repeat (go_big_quiet_step (fail))
            refine wpQuiet_nil ?_
            refine wpS_nil ?_
            refine then_normal ?_
            refine ⟨by kernel_rfl, ?_⟩
            refine ⟨x.v.length - (j + 1), by omega, j + 1, rfl, rfl, ?_, hj1, (Mem.only (M := [_, _, _, _, _, _]) HM182.out [1, 1, 1, 1, 1, 1] rfl)⟩
            rw [heldV_step hu.out (((d1, d2), t)), hc.out]
            rw [decide_eq_false he.out]
            rfl
        · have hge3 : Hid (x.v.length ≤ j) := Lib.hid (by have : ¬ (j : Int) < ((x.v.length : Nat) : Int) := (by simpa using h172); omega)
          clear h172
          refine wp_exit ?_
          refine then_exit (then_exit (block_exit ?_))
          refine then_normal ?_
          refine wp_seq ?_
          refine wp_region_N [(0, 1), (1, 1), (2, 1), (3, 1), (4, 3), (5, 1), (6, 1), (7, 1), (8, 3), (9, 3), (10, 1)] (by kernel_rfl) ?_
          refine wpS_loadA (i := 0) (d := some 144) (cells := bgC (x.k) (.slice px x.v.length cx)) rfl (by rfl) rfl rfl (HM171.out.part 1 rfl (bgC_all)) Try.underlying27 rfl (by kernel_rfl) rfl ?_
          simp only [Act.put, List.setIfInBounds_toArray, List.set_cons_succ, List.set_cons_zero]
          refine wpS_loadA (i := 1) (d := some 145) (cells := vcC (k)) rfl (by rfl) rfl rfl (HM171.out.cells0 3 rfl) Try.underlying24 rfl (by kernel_rfl) rfl ?_
          simp only [Act.put, List.setIfInBounds_toArray, List.set_cons_succ, List.set_cons_zero]
          have Cb6 := Mem.cell HM171.out 2 rfl
          refine wpS_this [2, 3] rfl (by kernel_rfl) (by simp only [pickL, nthL, List.cons_append, List.nil_append]; rfl) ?_
          repeat (go_big_quiet_step (fail))
          refine wpQuiet_nil ?_
          clear Cb6
          refine wpS_doesU4 (i := 4) (d := some 148) (rem := [_, _, _, _, _]) rfl (by rfl) rfl Try.call16 (bput_d (rowT elemV _ _) _ x rowT_reads (by have := hx32.out; omega) k d1 d2 t noB 1 hag.out) rfl rfl rfl rfl HM171.out [0] rfl covS_nil (fun _ => rfl) rfl ?_
          rintro u185 W184 hm183 -
          obtain ⟨px2, cx2, rfl, hm183q⟩ := Mem.bagE rfl hm183
          clear hm183
          have HM186 := Lib.hid hm183q
          clear hm183q
          simp only [Act.put, List.setIfInBounds_toArray, List.set_cons_succ, List.set_cons_zero]
          refine wpS_this [5, 6, 7] rfl (by kernel_rfl) (by simp only [pickL, nthL, List.cons_append, List.nil_append]; rfl) ?_
          repeat (go_big_quiet_step (fail))
          refine wpQuiet_nil ?_
          refine wpS_alloc (i := 8) (dd := 20) (z := bgV noB.k (.slice none 0 0)) (cs := (bgC noB.k (.slice none 0 0)).toArray) rfl (by rfl) rfl (by kernel_rfl) rfl HM186.out covS_nil rfl ?_
          rintro b189 W188 hm187 -
          have HM190 := Lib.hid hm187
          clear hm187
          simp only [Act.put, List.setIfInBounds_toArray, List.set_cons_succ, List.set_cons_zero]
          refine wpS_storeA (i := 9) (L2 := [_, _, _, _, _, _, _]) (cs' := bgC (noB.k) (.slice px2 noB.v.length cx2)) rfl (by rfl) rfl rfl rfl (by kernel_rfl) (bgC_one _ _ _) HM190.out 0 rfl rfl (by kernel_rfl) (by kernel_rfl) covS_nil rfl ?_
          rintro W192 hm191 -
          have HM193 := Lib.hid hm191
          clear hm191
          refine wpS_this [10] rfl (by kernel_rfl) (by simp only [pickL, nthL, List.cons_append, List.nil_append]; rfl) ?_
          repeat (go_big_quiet_step (fail))
          refine wpQuiet_nil ?_
          refine wpS_nil ?_
          refine then_normal ?_
          refine wp_seq ?_
          skip
          · have hct : c = true := by rw [← hc.out, List.take_of_length_le hge3.out]; exact heldV_iff.2 hmem.out
            subst hct
            have hmx0 : m + 1 = x.v.length := by rw [hlen.out, hmN.out, List.take_of_length_le hge1.out]
            have g1 : ((m : Int) + 1 == (x.v.length : Int)) = true := beq_iff_eq.2 (by omega)
            refine wp_region_N [(0, 1), (1, 1), (2, 1), (3, 1), (4, 1), (5, 1), (6, 1), (7, 1), (8, 1), (9, 1), (10, 3), (11, 1), (12, 1), (13, 1), (14, 1), (15, 1), (16, 3), (17, 1), (18, 1), (19, 1), (20, 1), (21, 1), (22, 3), (23, 1), (24, 1), (25, 1), (26, 1), (27, 1), (28, 1), (29, 3), (30, 1), (31, 1)] (by kernel_rfl) ?_
            refine wpS_this [0, 1, 2, 3] rfl (by kernel_rfl) (by simp only [pickL, nthL, List.cons_append, List.nil_append]; rfl) ?_
            repeat (go_big_quiet_step (fail))
            refine wpQuiet_nil ?_
            refine wpS_load1 (i := 4) (d := some 155) (u := .slice px x.v.length cx) rfl (by rfl) rfl rfl (HM193.out.part1 3 rfl bgC_sl) Try.underlying25 rfl rfl ?_
            simp only [Act.put, List.setIfInBounds_toArray, List.set_cons_succ, List.set_cons_zero]
            refine wpS_this [5, 6, 7, 8] rfl (by kernel_rfl) (by simp only [pickL, nthL, List.cons_append, List.nil_append]; rfl) ?_
            repeat (go_big_quiet_step (fail))
            refine wpQuiet_nil ?_
            refine wpS_loadA (i := 9) (d := some 160) (cells := bgC (x.k) (.slice px x.v.length cx)) rfl (by rfl) rfl rfl (HM193.out.part 3 rfl (bgC_all)) Try.underlying27 rfl (by kernel_rfl) rfl ?_
            simp only [Act.put, List.setIfInBounds_toArray, List.set_cons_succ, List.set_cons_zero]
            refine wpS_does1 (i := 10) (d := some 161) (rem := [_, _, _, _, _, _, _]) (out := [_, _, _, _, _, _, _, _]) rfl (by rfl) rfl Try.call12 (bmay_d (rowT elemV _ _) _ x rowT_reads (by have := hx32.out; omega)) rfl HM193.out [2] rfl covS_nil rfl rfl ?_
            rintro W195 hm194 -
            rw [hf1.out]
            have HM196 := Lib.hid hm194
            clear hm194
            simp only [Act.put, List.setIfInBounds_toArray, List.set_cons_succ, List.set_cons_zero]
            refine wpS_this [11, 12, 13] rfl (by kernel_rfl) (by simp only [pickL, nthL, List.cons_append, List.nil_append]; rfl) ?_
            repeat (go_big_quiet_step (fail))
            refine wpQuiet_nil ?_
            refine wpS_loadA (i := 14) (d := some 165) (cells := vcC (x.k)) rfl (by rfl) rfl rfl (HM196.out.part 3 rfl (bgC_vc)) Try.underlying24 rfl (by kernel_rfl) rfl ?_
            simp only [Act.put, List.setIfInBounds_toArray, List.set_cons_succ, List.set_cons_zero]
            have Cb6 := Mem.cell HM196.out 4 rfl
            refine wpS_this [15] rfl (by kernel_rfl) (by simp only [pickL, nthL, List.cons_append, List.nil_append]; rfl) ?_
            repeat (go_big_quiet_step (fail))
            refine wpQuiet_nil ?_
            clear Cb6
            refine wpS_does2 (i := 16) (d := some 167) (rem := [_, _, _, _, _, _, _, _]) (out := [_, _, _, _, _, _, _, _]) rfl (by rfl) rfl Try.call14 (chas_d x.k d1 d2) rfl rfl HM196.out [] rfl covS_nil rfl rfl ?_
            rintro W198 hm197 -
            rw [hf2.out]
            have HM199 := Lib.hid hm197
            clear hm197
            simp only [Act.put, List.setIfInBounds_toArray, List.set_cons_succ, List.set_cons_zero]
            refine wpS_this [17, 18] rfl (by kernel_rfl) (by simp only [pickL, nthL, List.cons_append, List.nil_append]; rfl) ?_
            repeat (go_big_quiet_step (fail))
            refine wpQuiet_nil ?_
            refine wpS_loadA (i := 19) (d := some 170) (cells := vcC (k)) rfl (by rfl) rfl rfl (HM199.out.cells0 5 rfl) Try.underlying24 rfl (by kernel_rfl) rfl ?_
            simp only [Act.put, List.setIfInBounds_toArray, List.set_cons_succ, List.set_cons_zero]
            refine wpS_this [20] rfl (by kernel_rfl) (by simp only [pickL, nthL, List.cons_append, List.nil_append]; rfl) ?_
            repeat (go_big_quiet_step (fail))
            refine wpQuiet_nil ?_
            refine wpS_loadA (i := 21) (d := some 172) (cells := vcC (x.k)) rfl (by rfl) rfl rfl (HM199.out.part 3 rfl (bgC_vc)) Try.underlying24 rfl (by kernel_rfl) rfl ?_
            simp only [Act.put, List.setIfInBounds_toArray, List.set_cons_succ, List.set_cons_zero]
            refine wpS_does2 (i := 22) (d := some 173) (rem := [_, _, _, _, _, _, _, _]) (out := [_, _, _, _, _, _, _, _]) rfl (by rfl) rfl Try.call13 (cbelow_d k x.k) rfl rfl HM199.out [] rfl covS_nil rfl rfl ?_
            rintro W201 hm200 -
            rw [hf3.out]
            have HM202 := Lib.hid hm200
            clear hm200
            simp only [Act.put, List.setIfInBounds_toArray, List.set_cons_succ, List.set_cons_zero]
            refine wpS_this [23, 24, 25, 26, 27, 28] rfl (by kernel_rfl) (by simp only [pickL, nthL, List.cons_append, List.nil_append]; rfl) ?_
            repeat (go_big_quiet_step (fail))
            refine wpQuiet_nil ?_
            refine wpS_does0 (i := 29) (d := some 180) (rem := [_, _, _, _, _, _, _, _]) (out := [_, _, _, _, _, _, _, _]) rfl (by rfl) rfl Try.call8 (bawake_d)  HM202.out [] rfl covS_nil rfl rfl ?_
            rintro W204 hm203 -
            have HM205 := Lib.hid hm203
            clear hm203
            simp only [Act.put, List.setIfInBounds_toArray, List.set_cons_succ, List.set_cons_zero]
            refine wpS_this [30, 31] rfl (by kernel_rfl) (by simp only [pickL, nthL, List.cons_append, List.nil_append]; rfl) ?_
            repeat (go_big_quiet_step (fail))
            refine wpQuiet_nil ?_
            refine wpS_nil ?_
            refine then_normal ?_
            refine wp_ret ?_
            refine bodyPost_ret (results_tmp rfl _ _ _) rfl ?_
            exact does_ret (Mem.only (M := [_]) HM205.out [7] rfl) rfl rfl

end Go.Proofs.Ytneeidedadlioaa
