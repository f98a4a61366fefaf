/- Rings: RingFlips. -/
import Derived.Test.YtihhopoplcelfaaRgH
namespace Go.Proofs.Ytihhopoplcelfaa
open Go Go.RowKit Go.BigFrame

theorem three_ways (p q : Prop) : ¬ p ∨ (p ∧ ¬ q) ∨ (p ∧ q) := by
  by_cases hp : p
  · by_cases hq : q
    · exact .inr (.inr ⟨hp, hq⟩)
    · exact .inr (.inl ⟨hp, hq⟩)
  · exact .inl hp
theorem upd_same {β : Type} {f : Nat → β} {i : Nat} {x : β} : upd f i x i = x := if_pos rfl
theorem upd_other {β : Type} {f : Nat → β} {i j : Nat} {x : β} (h : j ≠ i) : upd f i x j = f j := if_neg h
def BaseR (r : Rg) : Prop := r.s = (oneR 0).s ∧ r.p = (0, 0, []) ∧ ∀ j, j < 16 → 1 ≤ (r.e j).1 ∧ (r.e j).1 ≤ 2 ∧ 0 ≤ (r.e j).2 ∧ (r.e j).2 < 2
theorem base_one : BaseR (oneR 0) := ⟨rfl, rfl, fun _ _ => by show (1 : Int) ≤ 1 ∧ (1 : Int) ≤ 2 ∧ 0 ≤ ((0 : Nat) : Int) ∧ ((0 : Nat) : Int) < 2; decide⟩
theorem base_set {r : Rg} (h : BaseR r) {k m : Nat} (hm : m < 2) : BaseR ⟨r.s, r.p, upd r.e k (2, (m : Int))⟩ := by
  refine ⟨h.1, h.2.1, fun j hj => ?_⟩
  by_cases hjk : j = k
  · subst hjk
    rw [show (⟨r.s, r.p, upd r.e j (2, (m : Int))⟩ : Rg).e j = (2, (m : Int)) from upd_same]
    dsimp only
    omega
  · rw [show (⟨r.s, r.p, upd r.e k (2, (m : Int))⟩ : Rg).e j = r.e j from upd_other hjk]
    exact h.2.2 j hj
def FlipOf (r x : Rg) (own lo hi : Int) : Prop := x.s = r.s ∧ x.p = r.p ∧ ∀ j, j < 16 → x.e j = r.e j ∨ ∃ c, x.e j = ((r.e j).1 + 1, c) ∧ (r.e j).2 = own ∧ lo ≤ c ∧ c ≤ hi
theorem flip_refl (r : Rg) (own lo hi : Int) : FlipOf r r own lo hi := ⟨rfl, rfl, fun _ _ => .inl rfl⟩
theorem flip_set {r x : Rg} {own lo hi c : Int} {m : Nat} (h : FlipOf r x own lo hi) (he : x.e m = r.e m) (ho : (x.e m).2 = own) (h1 : lo ≤ c) (h2 : c ≤ hi) : FlipOf r ⟨x.s, x.p, upd x.e m ((x.e m).1 + 1, c)⟩ own lo hi := by
  refine ⟨h.1, h.2.1, fun j hj => ?_⟩
  by_cases hjm : j = m
  · subst hjm
    refine .inr ⟨c, ?_, by rw [← he]; exact ho, h1, h2⟩
    rw [← he]
    exact upd_same
  · rw [show (⟨x.s, x.p, upd x.e m ((x.e m).1 + 1, c)⟩ : Rg).e j = x.e j from upd_other hjm]
    exact h.2.2 j hj
theorem flip_join {r x y : Rg} (hx : FlipOf r x 0 2 4) (hy : FlipOf r y 1 5 7) {p : Nat} (hp : p < 16) : (joinR x y).e p = if y.e p = r.e p then x.e p else y.e p := by
  show joinE (x.e p) (y.e p) = _
  rcases hx.2.2 p hp with e1 | ⟨c, e1, o1, _, _⟩ <;> rcases hy.2.2 p hp with e2 | ⟨d, e2, o2, _, _⟩
  · rw [if_pos e2, e1, e2]
    exact joinE_self _
  · rw [if_neg (by rw [e2]; intro h; have := congrArg Prod.fst h; dsimp only at this; omega), e1, e2]
    exact if_pos (by rw [cmpE_up (by dsimp only; omega)]; decide)
  · rw [if_pos e2, e2, e1]
    exact joinC_left (by rw [cmpE_cmp.neg, cmpE_up (by dsimp only; omega)]; decide)
  · omega
theorem flip_le {r x : Rg} {own lo hi : Int} (hx : FlipOf r x own lo hi) : leR r x := by
  refine ⟨fun i _ => by rw [hx.1]; exact Int.le_refl _, by rw [hx.2.1, cmpP_cmp.self]; exact Int.le_refl 0, fun p hp => ?_⟩
  rcases hx.2.2 p hp with e1 | ⟨c, e1, _, _, _⟩
  · rw [e1, cmpE_cmp.self]
    exact Int.le_refl 0
  · rw [e1, cmpE_cmp.neg, cmpE_up (by dsimp only; omega)]
    decide
theorem flip_below {r x y : Rg} (hx : FlipOf r x 0 2 4) : belowR r (joinR x y) = true := belowR_iff.2 (leR_trans (flip_le hx) (belowR_iff.1 (below_left x y)))
theorem flip_bound {r x : Rg} {own lo hi : Int} (hb : BaseR r) (hx : FlipOf r x own lo hi) (h0 : 0 ≤ lo) (h7 : hi ≤ 7) {p : Nat} (hp : p < 16) : 1 ≤ (x.e p).1 ∧ (x.e p).1 ≤ 3 ∧ 0 ≤ (x.e p).2 ∧ (x.e p).2 < 8 := by
  have h1 := hb.2.2 p hp
  rcases hx.2.2 p hp with e1 | ⟨c, e1, _, _, _⟩
  · rw [e1]; omega
  · rw [e1]; dsimp only; omega
theorem flip_may {r x : Rg} {own lo hi : Int} (hb : BaseR r) (hx : FlipOf r x own lo hi) (h0 : 0 ≤ lo) (h7 : hi ≤ 7) : mayR x = true := by
  unfold mayR
  rw [Bool.and_eq_true, Bool.and_eq_true, all8, all16]
  refine ⟨fun j _ => ?_, fun j hj => ?_, ?_⟩
  · rw [hx.1, hb.1]
    show statB (if j = 0 then 2 else 0) = true
    split <;> decide
  · have := flip_bound hb hx h0 h7 hj
    exact decide_eq_true (.inr (by omega))
  · rw [hx.2.1, hb.2.1]
    decide
theorem flip_mayj {r x y : Rg} (hb : BaseR r) (hx : FlipOf r x 0 2 4) (hy : FlipOf r y 1 5 7) : mayR (joinR x y) = true := mayR_join (flip_may hb hx (by decide) (by decide)) (flip_may hb hy (by decide) (by decide))
theorem flip_own {r x y : Rg} (hb : BaseR r) (hx : FlipOf r x 0 2 4) (hy : FlipOf r y 1 5 7) {p : Nat} (hp : p < 16) : ownerR (joinR x y) (p : Int) = ((joinR x y).e p).2 := by
  have h1 : 1 ≤ ((joinR x y).e p).1 ∧ ((joinR x y).e p).1 ≤ 3 ∧ 0 ≤ ((joinR x y).e p).2 ∧ ((joinR x y).e p).2 < 8 := by
    rcases joinE_or (x.e p) (y.e p) with e | e <;> rw [show (joinR x y).e p = joinE (x.e p) (y.e p) from rfl, e]
    · exact flip_bound hb hx (by decide) (by decide) hp
    · exact flip_bound hb hy (by decide) (by decide) hp
  unfold ownerR
  rw [Int.toNat_natCast, if_pos]
  exact ⟨decide_eq_true (by omega), by omega, decide_eq_true (.inr (by omega))⟩
theorem ne_selfE (p : En) : (!decide (p = p)) = false := by simp
set_option maxHeartbeats 4000000 in
set_option maxRecDepth 100000 in
theorem flips_d (W0 : World) (vO : Value) (sO : List Int) (hO : SrcE elemI W0 vO sO) (vA : Value) (sA : List Int) (hA : SrcE elemI W0 vA sA) (vB : Value) (sB : List Int) (hB : SrcE elemI W0 vB sB) : Does Try.prog 5 #[vO, vA, vB] [oldT W0] (.bool true) [oldT W0] := by
  intro w H hp
  have HM0 := Lib.hid (mem_refl hp)
  clear hp
  obtain ⟨pO, cO, rfl⟩ := row_form hO
  obtain ⟨pA, cA, rfl⟩ := row_form hA
  obtain ⟨pB, cB, rfl⟩ := row_form hB
  go_enter Try.func5, Try.ntmps5
  refine wp_seq ?_
  refine wp_region_N [(0, 1)] (by kernel_rfl) ?_
  refine wpS_this [0] rfl (by kernel_rfl) (by simp only [pickL, nthL, List.cons_append, List.nil_append]; rfl) ?_
  repeat (go_big_quiet_step (fail))
  refine wpQuiet_nil ?_
  refine wpS_nil ?_
  refine then_normal ?_
  refine wp_seq ?_
  refine wp_seq ?_
  rcases (show 100 < sO.length ∨ (¬ 100 < sO.length ∧ 40 < sA.length) ∨ (¬ 100 < sO.length ∧ ¬ 40 < sA.length ∧ 40 < sB.length) ∨ (¬ 100 < sO.length ∧ ¬ 40 < sA.length ∧ ¬ 40 < sB.length) from by omega) with h1 | ⟨h1, h2⟩ | ⟨h1, h2, h3⟩ | ⟨h1, h2, h3⟩
  · have gO : decide (100 < sO.length) = true := decide_eq_true (by omega)
    have gO' : decide ((100 : Int) < (sO.length : Int)) = true := decide_eq_true (by omega)
    clear h1
    refine wp_region_N [(0, 1), (1, 1), (2, 1), (3, 1), (4, 1), (5, 1), (6, 1), (7, 1), (8, 1), (9, 1), (10, 1), (11, 1), (12, 1)] (by kernel_rfl) ?_
    refine wpS_this [0, 1, 2, 3, 4, 5, 6, 7, 8, 9, 10, 11, 12] rfl (by kernel_rfl) (by simp only [pickL, nthL, List.cons_append, List.nil_append]; rfl) ?_
    repeat (go_big_quiet_step (fail))
    refine wpQuiet_nil ?_
    refine wpS_nil ?_
    refine then_normal ?_
    refine wp_cond_true rfl ?_
    refine wp_seq ?_
    refine wp_region_N [(0, 3), (1, 1)] (by kernel_rfl) ?_
    refine wpS_does0 (i := 0) (d := some 33) (rem := [_]) (out := [_]) rfl (by rfl) rfl Try.call9 (gawake_d)  HM0.out [] rfl covS_nil rfl rfl ?_
    rintro W2 hm1 -
    have HM3 := Lib.hid hm1
    clear hm1
    simp only [Act.put, List.setIfInBounds_toArray, List.set_cons_succ, List.set_cons_zero]
    refine wpS_this [1] rfl (by kernel_rfl) (by simp only [pickL, nthL, List.cons_append, List.nil_append]; rfl) ?_
    repeat (go_big_quiet_step (fail))
    refine wpQuiet_nil ?_
    refine wpS_nil ?_
    refine then_normal ?_
    refine wp_ret ?_
    refine then_ret ?_
    refine bodyPost_ret (results_tmp rfl _ _ _) rfl ?_
    exact does_ret (Mem.only (M := [_]) HM3.out [0] rfl) rfl rfl
  · have gO : decide (100 < sO.length) = false := decide_eq_false (by omega)
    have gO' : decide ((100 : Int) < (sO.length : Int)) = false := decide_eq_false (by omega)
    have gA : decide (40 < sA.length) = true := decide_eq_true (by omega)
    have gA' : decide ((40 : Int) < (sA.length : Int)) = true := decide_eq_true (by omega)
    clear h1 h2
    refine wp_region_N [(0, 1), (1, 1), (2, 1), (3, 1), (4, 1), (5, 1), (6, 1), (7, 1), (8, 1), (9, 1), (10, 1), (11, 1), (12, 1)] (by kernel_rfl) ?_
    refine wpS_this [0, 1, 2, 3, 4, 5, 6, 7, 8, 9, 10, 11, 12] rfl (by kernel_rfl) (by simp only [pickL, nthL, List.cons_append, List.nil_append]; rfl) ?_
    repeat (go_big_quiet_step (fail))
    refine wpQuiet_nil ?_
    refine wpS_nil ?_
    refine then_normal ?_
    refine wp_cond_true rfl ?_
    refine wp_seq ?_
    refine wp_region_N [(0, 3), (1, 1)] (by kernel_rfl) ?_
    refine wpS_does0 (i := 0) (d := some 33) (rem := [_]) (out := [_]) rfl (by rfl) rfl Try.call9 (gawake_d)  HM0.out [] rfl covS_nil rfl rfl ?_
    rintro W5 hm4 -
    have HM6 := Lib.hid hm4
    clear hm4
    simp only [Act.put, List.setIfInBounds_toArray, List.set_cons_succ, List.set_cons_zero]
    refine wpS_this [1] rfl (by kernel_rfl) (by simp only [pickL, nthL, List.cons_append, List.nil_append]; rfl) ?_
    repeat (go_big_quiet_step (fail))
    refine wpQuiet_nil ?_
    refine wpS_nil ?_
    refine then_normal ?_
    refine wp_ret ?_
    refine then_ret ?_
    refine bodyPost_ret (results_tmp rfl _ _ _) rfl ?_
    exact does_ret (Mem.only (M := [_]) HM6.out [0] rfl) rfl rfl
  · have gO : decide (100 < sO.length) = false := decide_eq_false (by omega)
    have gO' : decide ((100 : Int) < (sO.length : Int)) = false := decide_eq_false (by omega)
    have gA : decide (40 < sA.length) = false := decide_eq_false (by omega)
    have gA' : decide ((40 : Int) < (sA.length : Int)) = false := decide_eq_false (by omega)
    have gB : decide (40 < sB.length) = true := decide_eq_true (by omega)
    have gB' : decide ((40 : Int) < (sB.length : Int)) = true := decide_eq_true (by omega)
    clear h1 h2 h3
    refine wp_region_N [(0, 1), (1, 1), (2, 1), (3, 1), (4, 1), (5, 1), (6, 1), (7, 1), (8, 1), (9, 1), (10, 1), (11, 1), (12, 1)] (by kernel_rfl) ?_
    refine wpS_this [0, 1, 2, 3, 4, 5, 6, 7, 8, 9, 10, 11, 12] rfl (by kernel_rfl) (by simp only [pickL, nthL, List.cons_append, List.nil_append]; rfl) ?_
    repeat (go_big_quiet_step (fail))
    refine wpQuiet_nil ?_
    refine wpS_nil ?_
    refine then_normal ?_
    refine wp_cond_true rfl ?_
    refine wp_seq ?_
    refine wp_region_N [(0, 3), (1, 1)] (by kernel_rfl) ?_
    refine wpS_does0 (i := 0) (d := some 33) (rem := [_]) (out := [_]) rfl (by rfl) rfl Try.call9 (gawake_d)  HM0.out [] rfl covS_nil rfl rfl ?_
    rintro W8 hm7 -
    have HM9 := Lib.hid hm7
    clear hm7
    simp only [Act.put, List.setIfInBounds_toArray, List.set_cons_succ, List.set_cons_zero]
    refine wpS_this [1] rfl (by kernel_rfl) (by simp only [pickL, nthL, List.cons_append, List.nil_append]; rfl) ?_
    repeat (go_big_quiet_step (fail))
    refine wpQuiet_nil ?_
    refine wpS_nil ?_
    refine then_normal ?_
    refine wp_ret ?_
    refine then_ret ?_
    refine bodyPost_ret (results_tmp rfl _ _ _) rfl ?_
    exact does_ret (Mem.only (M := [_]) HM9.out [0] rfl) rfl rfl
  · have gO : decide (100 < sO.length) = false := decide_eq_false (by omega)
    have gO' : decide ((100 : Int) < (sO.length : Int)) = false := decide_eq_false (by omega)
    have gA : decide (40 < sA.length) = false := decide_eq_false (by omega)
    have gA' : decide ((40 : Int) < (sA.length : Int)) = false := decide_eq_false (by omega)
    have gB : decide (40 < sB.length) = false := decide_eq_false (by omega)
    have gB' : decide ((40 : Int) < (sB.length : Int)) = false := decide_eq_false (by omega)
    have lO : sO.length ≤ 100 := by omega
    have lA : sA.length ≤ 40 := by omega
    have lB : sB.length ≤ 40 := by omega
    clear h1 h2 h3
    refine wp_region_N [(0, 1), (1, 1), (2, 1), (3, 1), (4, 1), (5, 1), (6, 1), (7, 1), (8, 1), (9, 1), (10, 1), (11, 1), (12, 1)] (by kernel_rfl) ?_
    refine wpS_this [0, 1, 2, 3, 4, 5, 6, 7, 8, 9, 10, 11, 12] rfl (by kernel_rfl) (by simp only [pickL, nthL, List.cons_append, List.nil_append]; rfl) ?_
    repeat (go_big_quiet_step (fail))
    refine wpQuiet_nil ?_
    refine wpS_nil ?_
    refine then_normal ?_
    refine wp_cond_false rfl ?_
    refine wp_skip ?_
    refine then_normal ?_
    refine wp_seq ?_
    refine wp_region_N [(0, 3), (1, 1), (2, 1), (3, 1), (4, 3), (5, 3), (6, 1)] (by kernel_rfl) ?_
    refine wpS_doesU1 (i := 0) (d := some 35) (rem := [_]) rfl (by rfl) rfl Try.call16 (gfirst_d 0 (oneR 0) true rfl) rfl HM0.out [] rfl covS_nil (fun _ => rfl) rfl ?_
    rintro u12 W11 hm10 -
    obtain ⟨px, cx, rfl, hm10q⟩ := Mem.ringE (n := 0) rfl hm10
    clear hm10
    have HM13 := Lib.hid hm10q
    clear hm10q
    simp only [Act.put, List.setIfInBounds_toArray, List.set_cons_succ, List.set_cons_zero]
    refine wpS_this [1, 2, 3] rfl (by kernel_rfl) (by simp only [pickL, nthL, List.cons_append, List.nil_append]; rfl) ?_
    repeat (go_big_quiet_step (fail))
    refine wpQuiet_nil ?_
    refine wpS_alloc (i := 4) (dd := 7) (z := rgV noR (.slice none 0 0)) (cs := (rgC noR (.slice none 0 0)).toArray) rfl (by rfl) rfl (by kernel_rfl) rfl HM13.out covS_nil rfl ?_
    rintro b16 W15 hm14 -
    have HM17 := Lib.hid hm14
    clear hm14
    simp only [Act.put, List.setIfInBounds_toArray, List.set_cons_succ, List.set_cons_zero]
    refine wpS_storeA (i := 5) (L2 := [_, _]) (cs' := rgC ((oneR 0)) (.slice px 0 cx)) rfl (by rfl) rfl rfl rfl (by kernel_rfl) (rgC_one _ _ _) HM17.out 0 rfl rfl (by kernel_rfl) (by kernel_rfl) covS_nil rfl ?_
    rintro W19 hm18 -
    have HM20 := Lib.hid hm18
    clear hm18
    refine wpS_this [6] rfl (by kernel_rfl) (by simp only [pickL, nthL, List.cons_append, List.nil_append]; rfl) ?_
    repeat (go_big_quiet_step (fail))
    refine wpQuiet_nil ?_
    refine wpS_nil ?_
    refine then_normal ?_
    refine wp_seq ?_
    refine wp_seq ?_
    refine wp_region_N [(0, 1), (1, 1)] (by kernel_rfl) ?_
    refine wpS_this [0, 1] rfl (by kernel_rfl) (by simp only [pickL, nthL, List.cons_append, List.nil_append]; rfl) ?_
    repeat (go_big_quiet_step (fail))
    refine wpQuiet_nil ?_
    refine wpS_nil ?_
    refine then_normal ?_
    refine wp_cond_false rfl ?_
    refine wp_skip ?_
    refine then_normal ?_
    refine wp_seq ?_
    refine wp_seq ?_
    refine wp_region_N [(0, 1), (1, 1), (2, 1)] (by kernel_rfl) ?_
    refine wpS_this [0, 1, 2] rfl (by kernel_rfl) (by simp only [pickL, nthL, List.cons_append, List.nil_append]; rfl) ?_
    repeat (go_big_quiet_step (fail))
    refine wpQuiet_nil ?_
    refine wpS_nil ?_
    refine then_normal ?_
    refine wp_block ?_
    refine wp_loop_F [9, 10, 42, 43, 44, 45, 46, 47, 48, 49, 50, 51, 52, 53, 54, 55, 56, 57] (fun n vs W' => ∃ (k : Nat) (r : Rg), n = sO.length - k ∧ vs 42 = .int .i64 (k : Int) ∧ k ≤ sO.length ∧ BaseR r ∧ Mem [boxT b16 (.cells (rgC r (.slice px 0 cx)).toArray 30 (0, 0)), rowT elemI (.slice px 0 cx) ([] : List Int), oldT W0] H w W') (n0 := sO.length) ?_ ?_
    · exact ⟨0, oneR 0, rfl, rfl, Nat.zero_le _, base_one, (Mem.only (M := [_, _, _]) HM20.out [0, 0, 0] rfl)⟩
    rintro n vs W' ⟨k, r, rfl, e42, hk, hbase', hm⟩
    simp only [putAll, List.map_cons, List.map_nil, Act.put, List.setIfInBounds_toArray, List.set_cons_succ, List.set_cons_zero]
    rw [e42]
    clear e42
    have hbase := Lib.hid hbase'
    clear hbase'
    have HM21 := Lib.hid hm
    clear hm
    refine wp_seq ?_
    refine wp_region_N [(0, 1)] (by kernel_rfl) ?_
    refine wpS_this [0] rfl (by kernel_rfl) (by simp only [pickL, nthL, List.cons_append, List.nil_append]; rfl) ?_
    repeat (go_big_quiet_step (fail))
    refine wpQuiet_nil ?_
    refine wpS_nil ?_
    refine then_normal ?_
    refine wp_seq ?_
    refine wp_cond_split rfl (fun h22 => ?_) (fun h22 => ?_)
    · have hk1 : k + 1 ≤ sO.length := by have : (k : Int) < ((sO.length : Nat) : Int) := (by simpa using h22); omega
      clear h22
      obtain ⟨z, hx'⟩ : ∃ y, sO[k]? = some y := ⟨_, List.getElem?_eq_getElem (hk1)⟩
      have hx := Lib.hid hx'
      clear hx'
      refine wp_skip ?_
      refine then_normal ?_
      refine wp_seq ?_
      refine wp_block ?_
      refine wp_seq ?_
      refine wp_region_N [(0, 1), (1, 1), (2, 1), (3, 1), (4, 1)] (by kernel_rfl) ?_
      refine wpS_this [0] rfl (by kernel_rfl) (by simp only [pickL, nthL, List.cons_append, List.nil_append]; rfl) ?_
      repeat (go_big_quiet_step (fail))
      refine wpQuiet_nil ?_
      refine wpS_index (E := elemI) (i := 1) (d := some 45) rfl (by rfl) rfl rfl rfl (HM21.out.row 2 rfl (srcOld hO).row) (hx.out) rfl ?_
      intro eb23 eo24 hc25
      simp only [Act.put, List.setIfInBounds_toArray, List.set_cons_succ, List.set_cons_zero]
      refine wpS_load1 (i := 2) (d := some 46) (u := .int .i64 z) rfl (by rfl) rfl rfl (hc25 0 _ rfl) Try.underlying3 rfl rfl ?_
      simp only [Act.put, List.setIfInBounds_toArray, List.set_cons_succ, List.set_cons_zero]
      refine wpS_this [3, 4] rfl (by kernel_rfl) (by simp only [pickL, nthL, List.cons_append, List.nil_append]; rfl) ?_
      repeat (go_big_quiet_step (fail))
      refine wpQuiet_nil ?_
      refine wpS_nil ?_
      refine then_normal ?_
      refine wp_seq ?_
      by_cases hk16 : k < 16
      · have g1 : decide (k < 16) = true := decide_eq_true hk16
        have g1' : decide ((k : Int) < 16) = true := decide_eq_true (by omega)
        refine wp_region_N [(0, 1), (1, 1)] (by kernel_rfl) ?_
        refine wpS_this [0, 1] rfl (by kernel_rfl) (by simp only [pickL, nthL, List.cons_append, List.nil_append]; rfl) ?_
        repeat (go_big_quiet_step (fail))
        refine wpQuiet_nil ?_
        refine wpS_nil ?_
        refine then_normal ?_
        refine wp_cond_true rfl ?_
        obtain ⟨m2, hm2, hmn'⟩ := mod_small 2 (by decide) (by decide) z
        replace hm2 : m2 < 2 := by omega
        have hmn := Lib.hid hmn'
        clear hmn'
        have hk16 := hk16
        refine wp_region_N [(0, 1), (1, 1), (2, 1), (3, 1), (4, 1), (5, 1), (6, 1), (7, 1), (8, 3)] (by kernel_rfl) ?_
        refine wpS_this [0, 1, 2, 3] rfl (by kernel_rfl) (by simp only [pickL, nthL, List.cons_append, List.nil_append]; rfl) ?_
        repeat (go_big_quiet_step (fail))
        refine wpQuiet_nil ?_
        refine wpS_this [4] rfl (by kernel_rfl) (by simp only [pickL, nthL, List.cons_append, List.nil_append]; rfl) ?_
        repeat (go_big_quiet_step (fail))
        refine wpQuiet_nil ?_
        rw [hmn.out]
        refine wpS_this [5, 6] rfl (by kernel_rfl) (by simp only [pickL, nthL, List.cons_append, List.nil_append]; rfl) ?_
        repeat (go_big_quiet_step (fail))
        refine wpQuiet_nil ?_
        refine wpS_read (i := 7) (d := some 56) rfl (by rfl) (run_addrEnt (hk16) rfl rfl rfl) rfl ?_
        simp only [Act.put, List.setIfInBounds_toArray, List.set_cons_succ, List.set_cons_zero]
        refine wpS_storeA (i := 8) (L2 := [_, _]) (cs' := rgC (⟨r.s, r.p, upd r.e k (2, (m2 : Int))⟩) (.slice px 0 cx)) rfl (by rfl) rfl rfl rfl (by kernel_rfl) (by rfl) HM21.out 0 rfl rfl (Nat.ble_eq_true_of_le (by rw [rgC_len]; show _ + 2 ≤ _; have := hk16; omega)) (rgC_setE (hk16) ((2, (m2 : Int)))) covS_nil rfl ?_
        rintro W27 hm26 -
        have HM28 := Lib.hid hm26
        clear hm26
        refine wpS_nil ?_
        refine block_normal ?_
        refine then_normal ?_
        refine wp_region_N [(0, 1), (1, 1)] (by kernel_rfl) ?_
        refine wpS_this [0, 1] rfl (by kernel_rfl) (by simp only [pickL, nthL, List.cons_append, List.nil_append]; rfl) ?_
        repeat (go_big_quiet_step (fail))
        refine wpQuiet_nil ?_
        refine wpS_nil ?_
        refine then_normal ?_
        refine ⟨by kernel_rfl, ?_⟩
        refine ⟨sO.length - (k + 1), by omega, k + 1, ⟨r.s, r.p, upd r.e k (2, (m2 : Int))⟩, rfl, rfl, hk1, base_set hbase.out hm2, (Mem.only (M := [_, _, _]) HM28.out [0, 0, 0] rfl)⟩
      · have g1 : decide (k < 16) = false := decide_eq_false hk16
        have g1' : decide ((k : Int) < 16) = false := decide_eq_false (by omega)
        refine wp_region_N [(0, 1), (1, 1)] (by kernel_rfl) ?_
        refine wpS_this [0, 1] rfl (by kernel_rfl) (by simp only [pickL, nthL, List.cons_append, List.nil_append]; rfl) ?_
        repeat (go_big_quiet_step (fail))
        refine wpQuiet_nil ?_
        refine wpS_nil ?_
        refine then_normal ?_
        refine wp_cond_false rfl ?_
        refine wp_skip ?_
        refine block_normal ?_
        refine then_normal ?_
        refine wp_region_N [(0, 1), (1, 1)] (by kernel_rfl) ?_
        refine wpS_this [0, 1] rfl (by kernel_rfl) (by simp only [pickL, nthL, List.cons_append, List.nil_append]; rfl) ?_
        repeat (go_big_quiet_step (fail))
        refine wpQuiet_nil ?_
        refine wpS_nil ?_
        refine then_normal ?_
        refine ⟨by kernel_rfl, ?_⟩
        exact ⟨sO.length - (k + 1), by omega, k + 1, r, rfl, rfl, hk1, hbase.out, (Mem.only (M := [_, _, _]) HM21.out [0, 0, 0] rfl)⟩
    · clear h22
      refine wp_exit ?_
      refine then_exit (then_exit (block_exit ?_))
      refine then_normal ?_
      refine wp_seq ?_
      refine wp_cut_F [11, 12, 58, 59] (fun vs W' => ∃ xb yb, vs 11 = .pointer (some ⟨xb, 0, none⟩) ∧ vs 12 = .pointer (some ⟨yb, 0, none⟩) ∧ Mem [boxT xb (.cells (rgC r (.slice px 0 cx)).toArray 30 (0, 0)), boxT yb (.cells (rgC r (.slice px 0 cx)).toArray 30 (0, 0)), boxT b16 (.cells (rgC r (.slice px 0 cx)).toArray 30 (0, 0)), rowT elemI (.slice px 0 cx) ([] : List Int), oldT W0] H w W') ?_ ?_
      · refine wp_region_taken [] (fun k => k ∈ ([b16] : List Nat)) (by kernel_rfl) rfl rfl ?_
        have hm29 := HM21.out.drew
        have HM30 := Lib.hid hm29
        clear hm29
        refine wpT_takeS (i := 0) (by kernel_rfl) (by kernel_rfl) ?_
        refine wpS_loadA2 (i := 0) (d := some 58) (cells := rgC (r) (.slice px 0 cx)) rfl (by rfl) rfl rfl (by simp) (HM30.out.sub 0 rfl (fun k u h => by rw [Nat.zero_add]; exact h)) Try.underlying30 rfl (by kernel_rfl) rfl ?_
        simp only [Act.put, List.setIfInBounds_toArray, List.set_cons_succ, List.set_cons_zero]
        refine wpS_nil ?_
        refine wpT_takeS (i := 1) (by kernel_rfl) (by kernel_rfl) ?_
        refine wpS_loadA2 (i := 1) (d := some 59) (cells := rgC (r) (.slice px 0 cx)) rfl (by rfl) rfl rfl (by simp) (HM30.out.sub 0 rfl (fun k u h => by rw [Nat.zero_add]; exact h)) Try.underlying30 rfl (by kernel_rfl) rfl ?_
        simp only [Act.put, List.setIfInBounds_toArray, List.set_cons_succ, List.set_cons_zero]
        refine wpS_nil ?_
        refine wpT_ready 2 [3] (by kernel_rfl) (allT_cons ?_ (allT_cons ?_ allT_nil))
        · refine opT_S (by kernel_rfl) ?_
          refine wpS_alloc (i := 2) (dd := 11) (z := rgV noR (.slice none 0 0)) (cs := (rgC noR (.slice none 0 0)).toArray) rfl (by rfl) rfl (by kernel_rfl) rfl HM30.out (covS_box 0 rfl covS_nil) rfl ?_
          rintro b34 W33 hm32 hg31
          have HM35 := Lib.hid hm32
          clear hm32
          simp only [Act.put, List.setIfInBounds_toArray, List.set_cons_succ, List.set_cons_zero]
          refine wpS_nil ?_
          refine wpT_ready 3 [] (by kernel_rfl) (allT_cons ?_ allT_nil)
          refine opT_S (by kernel_rfl) ?_
          refine wpS_alloc (i := 3) (dd := 12) (z := rgV noR (.slice none 0 0)) (cs := (rgC noR (.slice none 0 0)).toArray) rfl (by rfl) rfl (by kernel_rfl) rfl HM35.out (covS_box 1 rfl covS_nil) rfl ?_
          rintro b39 W38 hm37 hg36
          have HM40 := Lib.hid hm37
          clear hm37
          simp only [Act.put, List.setIfInBounds_toArray, List.set_cons_succ, List.set_cons_zero]
          refine wpS_nil ?_
          refine wpT_ready 4 [] (by kernel_rfl) (allT_cons ?_ allT_nil)
          refine opT_S (by kernel_rfl) ?_
          refine wpS_storeA (i := 4) (L2 := [_, _, _, _]) (cs' := rgC (r) (.slice px 0 cx)) rfl (by rfl) rfl rfl rfl (by kernel_rfl) (rgC_one _ _ _) HM40.out 1 rfl rfl (by kernel_rfl) (by kernel_rfl) (covS_box 1 rfl covS_nil) rfl ?_
          rintro W42 hm41 -
          have HM43 := Lib.hid hm41
          clear hm41
          refine wpS_nil ?_
          refine wpT_ready 5 [] (by kernel_rfl) (allT_cons ?_ allT_nil)
          refine opT_S (by kernel_rfl) ?_
          refine wpS_storeA (i := 5) (L2 := [_, _, _, _]) (cs' := rgC (r) (.slice px 0 cx)) rfl (by rfl) rfl rfl rfl (by kernel_rfl) (rgC_one _ _ _) HM43.out 1 rfl rfl (by kernel_rfl) (by kernel_rfl) (covS_box 1 rfl covS_nil) rfl ?_
          rintro W45 hm44 -
          have HM46 := Lib.hid hm44
          clear hm44
          refine wpS_nil ?_
          refine wpT_end (by kernel_rfl) ?_
          refine then_normal ?_
          refine ⟨by kernel_rfl, ?_⟩
          exact ⟨_, _, rfl, rfl, (Mem.only (M := [_, _, _, _, _]) HM46.out [1, 0, 0, 0, 0] rfl)⟩
        · refine opT_S (by kernel_rfl) ?_
          refine wpS_alloc (i := 3) (dd := 12) (z := rgV noR (.slice none 0 0)) (cs := (rgC noR (.slice none 0 0)).toArray) rfl (by rfl) rfl (by kernel_rfl) rfl HM30.out (covS_box 0 rfl covS_nil) rfl ?_
          rintro b50 W49 hm48 hg47
          have HM51 := Lib.hid hm48
          clear hm48
          simp only [Act.put, List.setIfInBounds_toArray, List.set_cons_succ, List.set_cons_zero]
          refine wpS_nil ?_
          refine wpT_ready 2 [] (by kernel_rfl) (allT_cons ?_ allT_nil)
          refine opT_S (by kernel_rfl) ?_
          refine wpS_alloc (i := 2) (dd := 11) (z := rgV noR (.slice none 0 0)) (cs := (rgC noR (.slice none 0 0)).toArray) rfl (by rfl) rfl (by kernel_rfl) rfl HM51.out (covS_box 1 rfl covS_nil) rfl ?_
          rintro b55 W54 hm53 hg52
          have HM56 := Lib.hid hm53
          clear hm53
          simp only [Act.put, List.setIfInBounds_toArray, List.set_cons_succ, List.set_cons_zero]
          refine wpS_nil ?_
          refine wpT_ready 4 [] (by kernel_rfl) (allT_cons ?_ allT_nil)
          refine opT_S (by kernel_rfl) ?_
          refine wpS_storeA (i := 4) (L2 := [_, _, _, _]) (cs' := rgC (r) (.slice px 0 cx)) rfl (by rfl) rfl rfl rfl (by kernel_rfl) (rgC_one _ _ _) HM56.out 0 rfl rfl (by kernel_rfl) (by kernel_rfl) (covS_box 1 rfl covS_nil) rfl ?_
          rintro W58 hm57 -
          have HM59 := Lib.hid hm57
          clear hm57
          refine wpS_nil ?_
          refine wpT_ready 5 [] (by kernel_rfl) (allT_cons ?_ allT_nil)
          refine opT_S (by kernel_rfl) ?_
          refine wpS_storeA (i := 5) (L2 := [_, _, _, _]) (cs' := rgC (r) (.slice px 0 cx)) rfl (by rfl) rfl rfl rfl (by kernel_rfl) (rgC_one _ _ _) HM59.out 1 rfl rfl (by kernel_rfl) (by kernel_rfl) (covS_box 1 rfl covS_nil) rfl ?_
          rintro W61 hm60 -
          have HM62 := Lib.hid hm60
          clear hm60
          refine wpS_nil ?_
          refine wpT_end (by kernel_rfl) ?_
          refine then_normal ?_
          refine ⟨by kernel_rfl, ?_⟩
          exact ⟨_, _, rfl, rfl, (Mem.only (M := [_, _, _, _, _]) HM62.out [1, 0, 0, 0, 0] rfl)⟩
      rintro vs W' ⟨xb, yb, e11, e12, hm⟩
      simp only [putAll, List.map_cons, List.map_nil, Act.put, List.setIfInBounds_toArray, List.set_cons_succ, List.set_cons_zero]
      rw [e11, e12]
      clear e11 e12
      have HM63 := Lib.hid hm
      clear hm
      refine then_normal ?_
      refine wp_seq ?_
      refine wp_seq ?_
      refine wp_region_N [(0, 1), (1, 1), (2, 1)] (by kernel_rfl) ?_
      refine wpS_this [0, 1, 2] rfl (by kernel_rfl) (by simp only [pickL, nthL, List.cons_append, List.nil_append]; rfl) ?_
      repeat (go_big_quiet_step (fail))
      refine wpQuiet_nil ?_
      refine wpS_nil ?_
      refine then_normal ?_
      refine wp_block ?_
      refine wp_loop_F [13, 14, 62, 63, 64, 65, 66, 67, 68, 69, 70, 71, 72, 73, 74, 75, 76, 77, 78, 79, 80, 81, 82, 83, 84, 85, 86, 87, 88, 89, 90, 91, 92, 93, 94, 95, 96, 97, 98, 99, 100, 101] (fun n ws W' => ∃ (i : Nat) (x : Rg), n = sA.length - i ∧ ws 62 = .int .i64 (i : Int) ∧ i ≤ sA.length ∧ FlipOf r x 0 2 4 ∧ Mem [boxT xb (.cells (rgC x (.slice px 0 cx)).toArray 30 (0, 0)), boxT yb (.cells (rgC r (.slice px 0 cx)).toArray 30 (0, 0)), boxT b16 (.cells (rgC r (.slice px 0 cx)).toArray 30 (0, 0)), rowT elemI (.slice px 0 cx) ([] : List Int), oldT W0] H w W') (n0 := sA.length) ?_ ?_
      · exact ⟨0, r, rfl, rfl, Nat.zero_le _, flip_refl _ _ _ _, (Mem.only (M := [_, _, _, _, _]) HM63.out [0, 0, 0, 0, 0] rfl)⟩
      rintro n ws W' ⟨i, x, rfl, e62, hi, hflx', hm⟩
      simp only [putAll, List.map_cons, List.map_nil, Act.put, List.setIfInBounds_toArray, List.set_cons_succ, List.set_cons_zero]
      rw [e62]
      clear e62
      have hflx := Lib.hid hflx'
      clear hflx'
      have HM64 := Lib.hid hm
      clear hm
      refine wp_seq ?_
      refine wp_region_N [(0, 1)] (by kernel_rfl) ?_
      refine wpS_this [0] rfl (by kernel_rfl) (by simp only [pickL, nthL, List.cons_append, List.nil_append]; rfl) ?_
      repeat (go_big_quiet_step (fail))
      refine wpQuiet_nil ?_
      refine wpS_nil ?_
      refine then_normal ?_
      refine wp_seq ?_
      refine wp_cond_split rfl (fun h65 => ?_) (fun h65 => ?_)
      · have hi1 : i + 1 ≤ sA.length := by have : (i : Int) < ((sA.length : Nat) : Int) := (by simpa using h65); omega
        clear h65
        obtain ⟨z, hx'⟩ : ∃ y, sA[i]? = some y := ⟨_, List.getElem?_eq_getElem (hi1)⟩
        have hx := Lib.hid hx'
        clear hx'
        refine wp_skip ?_
        refine then_normal ?_
        refine wp_seq ?_
        refine wp_block ?_
        refine wp_seq ?_
        refine wp_region_N [(0, 1), (1, 1), (2, 1), (3, 1), (4, 1)] (by kernel_rfl) ?_
        refine wpS_this [0] rfl (by kernel_rfl) (by simp only [pickL, nthL, List.cons_append, List.nil_append]; rfl) ?_
        repeat (go_big_quiet_step (fail))
        refine wpQuiet_nil ?_
        refine wpS_index (E := elemI) (i := 1) (d := some 65) rfl (by rfl) rfl rfl rfl (HM64.out.row 4 rfl (srcOld hA).row) (hx.out) rfl ?_
        intro eb66 eo67 hc68
        simp only [Act.put, List.setIfInBounds_toArray, List.set_cons_succ, List.set_cons_zero]
        refine wpS_load1 (i := 2) (d := some 66) (u := .int .i64 z) rfl (by rfl) rfl rfl (hc68 0 _ rfl) Try.underlying3 rfl rfl ?_
        simp only [Act.put, List.setIfInBounds_toArray, List.set_cons_succ, List.set_cons_zero]
        refine wpS_this [3, 4] rfl (by kernel_rfl) (by simp only [pickL, nthL, List.cons_append, List.nil_append]; rfl) ?_
        repeat (go_big_quiet_step (fail))
        refine wpQuiet_nil ?_
        refine wpS_nil ?_
        refine then_normal ?_
        refine wp_seq ?_
        obtain ⟨m, hm16, hmn'⟩ := mod_small 16 (by decide) (by decide) z
        replace hm16 : m < 16 := by omega
        have hmn := Lib.hid hmn'
        clear hmn'
        refine wp_region_N [(0, 1), (1, 1), (2, 1), (3, 1), (4, 1)] (by kernel_rfl) ?_
        refine wpS_this [0, 1, 2] rfl (by kernel_rfl) (by simp only [pickL, nthL, List.cons_append, List.nil_append]; rfl) ?_
        repeat (go_big_quiet_step (fail))
        refine wpQuiet_nil ?_
        refine wpS_this [3] rfl (by kernel_rfl) (by simp only [pickL, nthL, List.cons_append, List.nil_append]; rfl) ?_
        repeat (go_big_quiet_step (fail))
        refine wpQuiet_nil ?_
        rw [hmn.out]
        refine wpS_this [4] rfl (by kernel_rfl) (by simp only [pickL, nthL, List.cons_append, List.nil_append]; rfl) ?_
        repeat (go_big_quiet_step (fail))
        refine wpQuiet_nil ?_
        refine wpS_nil ?_
        refine then_normal ?_
        refine wp_seq ?_
        rcases three_ways ((x.e m).2 = 0) (x.e m = r.e m) with k1 | ⟨k1, k2⟩ | ⟨k1, k2⟩
        · have g1 : ((x.e m).2 == 0) = false := beq_eq_false_iff_ne.2 k1
          clear k1
          refine wp_region_M (fun k => k ∈ ([] : List Nat)) [(0, 1), (1, 1), (2, 1), (3, 1), (4, 1), (5, 1), (6, 1), (7, 1), (8, 1), (9, 1), (10, 1), (11, 1), (12, 1), (13, 1), (14, 1), (15, 1), (16, 1)] (by kernel_rfl) (by kernel_rfl) HM64.out ?_
          intro W69 hm70
          have HM71 := Lib.hid hm70
          clear hm70
          refine wpS_this [0, 1] rfl (by kernel_rfl) (by simp only [pickL, nthL, List.cons_append, List.nil_append]; rfl) ?_
          repeat (go_big_quiet_step (fail))
          refine wpQuiet_nil ?_
          refine wpS_read (i := 2) (d := some 73) rfl (by rfl) (run_addrEnt (hm16) rfl rfl rfl) rfl ?_
          simp only [Act.put, List.setIfInBounds_toArray, List.set_cons_succ, List.set_cons_zero]
          refine wpS_this [3] rfl (by kernel_rfl) (by simp only [pickL, nthL, List.cons_append, List.nil_append]; rfl) ?_
          repeat (go_big_quiet_step (fail))
          refine wpQuiet_nil ?_
          refine wpS_load1 (i := 4) (d := some 75) (u := _) rfl (by rfl) rfl rfl (HM71.out.sub1 0 rfl (rgC_e2 (hm16))) Try.underlying3 rfl rfl ?_
          simp only [Act.put, List.setIfInBounds_toArray, List.set_cons_succ, List.set_cons_zero]
          refine wpS_this [5, 6, 7, 8] rfl (by kernel_rfl) (by simp only [pickL, nthL, List.cons_append, List.nil_append]; rfl) ?_
          repeat (go_big_quiet_step (fail))
          refine wpQuiet_nil ?_
          refine wpS_skip (i := 9) (d := some 80) rfl (by rfl) rfl ?_
          simp only [Act.put, List.setIfInBounds_toArray, List.set_cons_succ, List.set_cons_zero]
          refine wpS_skip (i := 10) (d := some 81) rfl (by rfl) rfl ?_
          simp only [Act.put, List.setIfInBounds_toArray, List.set_cons_succ, List.set_cons_zero]
          refine wpS_this [11, 12] rfl (by kernel_rfl) (by simp only [pickL, nthL, List.cons_append, List.nil_append]; rfl) ?_
          repeat (go_big_quiet_step (fail))
          refine wpQuiet_nil ?_
          refine wpS_skip (i := 13) (d := some 84) rfl (by rfl) rfl ?_
          simp only [Act.put, List.setIfInBounds_toArray, List.set_cons_succ, List.set_cons_zero]
          refine wpS_skip (i := 14) (d := some 85) rfl (by rfl) rfl ?_
          simp only [Act.put, List.setIfInBounds_toArray, List.set_cons_succ, List.set_cons_zero]
          refine wpS_skip (i := 15) (d := some 86) rfl (by rfl) rfl ?_
          simp only [Act.put, List.setIfInBounds_toArray, List.set_cons_succ, List.set_cons_zero]
          refine wpS_this [16] rfl (by kernel_rfl) (by simp only [pickL, nthL, List.cons_append, List.nil_append]; rfl) ?_
          repeat (go_big_quiet_step (fail))
          refine wpQuiet_nil ?_
          refine wpS_nil ?_
          refine then_normal ?_
          refine wp_cond_false rfl ?_
          refine wp_skip ?_
          refine block_normal ?_
          refine then_normal ?_
          refine wp_region_N [(0, 1), (1, 1)] (by kernel_rfl) ?_
          refine wpS_this [0, 1] rfl (by kernel_rfl) (by simp only [pickL, nthL, List.cons_append, List.nil_append]; rfl) ?_
          repeat (go_big_quiet_step (fail))
          refine wpQuiet_nil ?_
          refine wpS_nil ?_
          refine then_normal ?_
          refine ⟨by kernel_rfl, ?_⟩
          exact ⟨sA.length - (i + 1), by omega, i + 1, x, rfl, rfl, hi1, hflx.out, (Mem.only (M := [_, _, _, _, _]) HM71.out [0, 0, 0, 0, 0] rfl)⟩
        · have g1 : ((x.e m).2 == 0) = true := beq_iff_eq.2 k1
          have g2 : decide (x.e m = r.e m) = false := decide_eq_false k2
          clear k1 k2
          refine wp_region_M (fun k => k ∈ ([] : List Nat)) [(0, 1), (1, 1), (2, 1), (3, 1), (4, 1), (5, 1), (6, 1), (7, 1), (8, 1), (9, 1), (10, 1), (11, 1), (12, 1), (13, 1), (14, 1), (15, 1), (16, 1)] (by kernel_rfl) (by kernel_rfl) HM64.out ?_
          intro W72 hm73
          have HM74 := Lib.hid hm73
          clear hm73
          refine wpS_this [0, 1] rfl (by kernel_rfl) (by simp only [pickL, nthL, List.cons_append, List.nil_append]; rfl) ?_
          repeat (go_big_quiet_step (fail))
          refine wpQuiet_nil ?_
          refine wpS_read (i := 2) (d := some 73) rfl (by rfl) (run_addrEnt (hm16) rfl rfl rfl) rfl ?_
          simp only [Act.put, List.setIfInBounds_toArray, List.set_cons_succ, List.set_cons_zero]
          refine wpS_this [3] rfl (by kernel_rfl) (by simp only [pickL, nthL, List.cons_append, List.nil_append]; rfl) ?_
          repeat (go_big_quiet_step (fail))
          refine wpQuiet_nil ?_
          refine wpS_load1 (i := 4) (d := some 75) (u := _) rfl (by rfl) rfl rfl (HM74.out.sub1 0 rfl (rgC_e2 (hm16))) Try.underlying3 rfl rfl ?_
          simp only [Act.put, List.setIfInBounds_toArray, List.set_cons_succ, List.set_cons_zero]
          refine wpS_this [5, 6, 7, 8] rfl (by kernel_rfl) (by simp only [pickL, nthL, List.cons_append, List.nil_append]; rfl) ?_
          repeat (go_big_quiet_step (fail))
          refine wpQuiet_nil ?_
          refine wpS_read (i := 9) (d := some 80) rfl (by rfl) (run_addrEnt (hm16) rfl rfl rfl) rfl ?_
          simp only [Act.put, List.setIfInBounds_toArray, List.set_cons_succ, List.set_cons_zero]
          refine wpS_loadA (i := 10) (d := some 81) (cells := eC _) rfl (by rfl) rfl rfl (HM74.out.sub 0 rfl (rgC_e (hm16))) Try.underlying27 rfl (by kernel_rfl) rfl ?_
          dsimp only [eC]
          simp only [Act.put, List.setIfInBounds_toArray, List.set_cons_succ, List.set_cons_zero]
          refine wpS_this [11, 12] rfl (by kernel_rfl) (by simp only [pickL, nthL, List.cons_append, List.nil_append]; rfl) ?_
          repeat (go_big_quiet_step (fail))
          refine wpQuiet_nil ?_
          refine wpS_read (i := 13) (d := some 84) rfl (by rfl) (run_addrEnt (hm16) rfl rfl rfl) rfl ?_
          simp only [Act.put, List.setIfInBounds_toArray, List.set_cons_succ, List.set_cons_zero]
          refine wpS_loadA (i := 14) (d := some 85) (cells := eC _) rfl (by rfl) rfl rfl (HM74.out.sub 2 rfl (rgC_e (hm16))) Try.underlying27 rfl (by kernel_rfl) rfl ?_
          dsimp only [eC]
          simp only [Act.put, List.setIfInBounds_toArray, List.set_cons_succ, List.set_cons_zero]
          refine wpS_read (i := 15) (d := some 86) rfl (by rfl) (run_eqEb (p := (x.e m)) (q := (r.e m)) g2 rfl rfl rfl) rfl ?_
          simp only [Act.put, List.setIfInBounds_toArray, List.set_cons_succ, List.set_cons_zero]
          refine wpS_this [16] rfl (by kernel_rfl) (by simp only [pickL, nthL, List.cons_append, List.nil_append]; rfl) ?_
          repeat (go_big_quiet_step (fail))
          refine wpQuiet_nil ?_
          refine wpS_nil ?_
          refine then_normal ?_
          refine wp_cond_false rfl ?_
          refine wp_skip ?_
          refine block_normal ?_
          refine then_normal ?_
          refine wp_region_N [(0, 1), (1, 1)] (by kernel_rfl) ?_
          refine wpS_this [0, 1] rfl (by kernel_rfl) (by simp only [pickL, nthL, List.cons_append, List.nil_append]; rfl) ?_
          repeat (go_big_quiet_step (fail))
          refine wpQuiet_nil ?_
          refine wpS_nil ?_
          refine then_normal ?_
          refine ⟨by kernel_rfl, ?_⟩
          exact ⟨sA.length - (i + 1), by omega, i + 1, x, rfl, rfl, hi1, hflx.out, (Mem.only (M := [_, _, _, _, _]) HM74.out [0, 0, 0, 0, 0] rfl)⟩
        · have g1 : ((x.e m).2 == 0) = true := beq_iff_eq.2 k1
          have g2 : decide (x.e m = r.e m) = true := decide_eq_true k2
          have hbd := hbase.out.2.2 m hm16
          rw [← k2] at hbd
          have hbd0 := hbd.1
          have hbd1 := hbd.2.1
          clear hbd
          obtain ⟨q, hq'⟩ := int_letter ((i : Int) % 3)
          have hq0 : 0 ≤ q := by omega
          have hq2 : q ≤ 2 := by omega
          have hq := Lib.hid hq'
          clear hq'
          have hxe := Lib.hid k2
          have hxo := Lib.hid k1
          clear k1 k2
          refine wp_region_M (fun k => k ∈ ([] : List Nat)) [(0, 1), (1, 1), (2, 1), (3, 1), (4, 1), (5, 1), (6, 1), (7, 1), (8, 1), (9, 1), (10, 1), (11, 1), (12, 1), (13, 1), (14, 1), (15, 1), (16, 1)] (by kernel_rfl) (by kernel_rfl) HM64.out ?_
          intro W75 hm76
          have HM77 := Lib.hid hm76
          clear hm76
          refine wpS_this [0, 1] rfl (by kernel_rfl) (by simp only [pickL, nthL, List.cons_append, List.nil_append]; rfl) ?_
          repeat (go_big_quiet_step (fail))
          refine wpQuiet_nil ?_
          refine wpS_read (i := 2) (d := some 73) rfl (by rfl) (run_addrEnt (hm16) rfl rfl rfl) rfl ?_
          simp only [Act.put, List.setIfInBounds_toArray, List.set_cons_succ, List.set_cons_zero]
          refine wpS_this [3] rfl (by kernel_rfl) (by simp only [pickL, nthL, List.cons_append, List.nil_append]; rfl) ?_
          repeat (go_big_quiet_step (fail))
          refine wpQuiet_nil ?_
          refine wpS_load1 (i := 4) (d := some 75) (u := _) rfl (by rfl) rfl rfl (HM77.out.sub1 0 rfl (rgC_e2 (hm16))) Try.underlying3 rfl rfl ?_
          simp only [Act.put, List.setIfInBounds_toArray, List.set_cons_succ, List.set_cons_zero]
          refine wpS_this [5, 6, 7, 8] rfl (by kernel_rfl) (by simp only [pickL, nthL, List.cons_append, List.nil_append]; rfl) ?_
          repeat (go_big_quiet_step (fail))
          refine wpQuiet_nil ?_
          refine wpS_read (i := 9) (d := some 80) rfl (by rfl) (run_addrEnt (hm16) rfl rfl rfl) rfl ?_
          simp only [Act.put, List.setIfInBounds_toArray, List.set_cons_succ, List.set_cons_zero]
          refine wpS_loadA (i := 10) (d := some 81) (cells := eC _) rfl (by rfl) rfl rfl (HM77.out.sub 0 rfl (rgC_e (hm16))) Try.underlying27 rfl (by kernel_rfl) rfl ?_
          dsimp only [eC]
          simp only [Act.put, List.setIfInBounds_toArray, List.set_cons_succ, List.set_cons_zero]
          refine wpS_this [11, 12] rfl (by kernel_rfl) (by simp only [pickL, nthL, List.cons_append, List.nil_append]; rfl) ?_
          repeat (go_big_quiet_step (fail))
          refine wpQuiet_nil ?_
          refine wpS_read (i := 13) (d := some 84) rfl (by rfl) (run_addrEnt (hm16) rfl rfl rfl) rfl ?_
          simp only [Act.put, List.setIfInBounds_toArray, List.set_cons_succ, List.set_cons_zero]
          refine wpS_loadA (i := 14) (d := some 85) (cells := eC _) rfl (by rfl) rfl rfl (HM77.out.sub 2 rfl (rgC_e (hm16))) Try.underlying27 rfl (by kernel_rfl) rfl ?_
          dsimp only [eC]
          simp only [Act.put, List.setIfInBounds_toArray, List.set_cons_succ, List.set_cons_zero]
          refine wpS_read (i := 15) (d := some 86) rfl (by rfl) (run_eqEb (p := (x.e m)) (q := (r.e m)) g2 rfl rfl rfl) rfl ?_
          simp only [Act.put, List.setIfInBounds_toArray, List.set_cons_succ, List.set_cons_zero]
          refine wpS_this [16] rfl (by kernel_rfl) (by simp only [pickL, nthL, List.cons_append, List.nil_append]; rfl) ?_
          repeat (go_big_quiet_step (fail))
          refine wpQuiet_nil ?_
          refine wpS_nil ?_
          refine then_normal ?_
          refine wp_cond_true rfl ?_
          refine wp_region_N [(0, 1), (1, 1), (2, 1), (3, 1), (4, 1), (5, 1), (6, 1), (7, 1), (8, 1), (9, 1), (10, 1), (11, 1), (12, 1), (13, 3)] (by kernel_rfl) ?_
          refine wpS_this [0, 1, 2] rfl (by kernel_rfl) (by simp only [pickL, nthL, List.cons_append, List.nil_append]; rfl) ?_
          repeat (go_big_quiet_step (fail))
          refine wpQuiet_nil ?_
          refine wpS_read (i := 3) (d := some 91) rfl (by rfl) (run_addrEnt (hm16) rfl rfl rfl) rfl ?_
          simp only [Act.put, List.setIfInBounds_toArray, List.set_cons_succ, List.set_cons_zero]
          refine wpS_this [4] rfl (by kernel_rfl) (by simp only [pickL, nthL, List.cons_append, List.nil_append]; rfl) ?_
          repeat (go_big_quiet_step (fail))
          refine wpQuiet_nil ?_
          refine wpS_load1 (i := 5) (d := some 93) (u := _) rfl (by rfl) rfl rfl (HM77.out.sub1 0 rfl (rgC_e1 (hm16))) Try.underlying3 rfl rfl ?_
          simp only [Act.put, List.setIfInBounds_toArray, List.set_cons_succ, List.set_cons_zero]
          refine wpS_this [6, 7] rfl (by kernel_rfl) (by simp only [pickL, nthL, List.cons_append, List.nil_append]; rfl) ?_
          repeat (go_big_quiet_step (fail))
          refine wpQuiet_nil ?_
          refine wpS_this [8] rfl (by kernel_rfl) (by simp only [pickL, nthL, List.cons_append, List.nil_append]; rfl) ?_
          repeat (go_big_quiet_step (fail))
          refine wpQuiet_nil ?_
          rw [hq.out]
          refine wpS_this [9, 10, 11] rfl (by kernel_rfl) (by simp only [pickL, nthL, List.cons_append, List.nil_append]; rfl) ?_
          repeat (go_big_quiet_step (fail))
          refine wpQuiet_nil ?_
          refine wpS_read (i := 12) (d := some 100) rfl (by rfl) (run_addrEnt (hm16) rfl rfl rfl) rfl ?_
          simp only [Act.put, List.setIfInBounds_toArray, List.set_cons_succ, List.set_cons_zero]
          refine wpS_storeA (i := 13) (L2 := [_, _, _, _]) (cs' := rgC (⟨x.s, x.p, upd x.e m ((x.e m).1 + 1, 2 + q)⟩) (.slice px 0 cx)) rfl (by rfl) rfl rfl rfl (by kernel_rfl) (by rfl) HM77.out 0 rfl rfl (Nat.ble_eq_true_of_le (by rw [rgC_len]; show _ + 2 ≤ _; have := hm16; omega)) (rgC_setE (hm16) (((x.e m).1 + 1, 2 + q))) covS_nil rfl ?_
          rintro W79 hm78 -
          have HM80 := Lib.hid hm78
          clear hm78
          refine wpS_nil ?_
          refine block_normal ?_
          refine then_normal ?_
          refine wp_region_N [(0, 1), (1, 1)] (by kernel_rfl) ?_
          refine wpS_this [0, 1] rfl (by kernel_rfl) (by simp only [pickL, nthL, List.cons_append, List.nil_append]; rfl) ?_
          repeat (go_big_quiet_step (fail))
          refine wpQuiet_nil ?_
          refine wpS_nil ?_
          refine then_normal ?_
          refine ⟨by kernel_rfl, ?_⟩
          refine ⟨sA.length - (i + 1), by omega, i + 1, ⟨x.s, x.p, upd x.e m ((x.e m).1 + 1, 2 + q)⟩, rfl, rfl, hi1, flip_set hflx.out hxe.out hxo.out (by omega) (by omega), (Mem.only (M := [_, _, _, _, _]) HM80.out [0, 0, 0, 0, 0] rfl)⟩
      · clear h65
        refine wp_exit ?_
        refine then_exit (then_exit (block_exit ?_))
        refine then_normal ?_
        refine wp_seq ?_
        refine wp_seq ?_
        refine wp_region_N [(0, 1), (1, 1), (2, 1)] (by kernel_rfl) ?_
        refine wpS_this [0, 1, 2] rfl (by kernel_rfl) (by simp only [pickL, nthL, List.cons_append, List.nil_append]; rfl) ?_
        repeat (go_big_quiet_step (fail))
        refine wpQuiet_nil ?_
        refine wpS_nil ?_
        refine then_normal ?_
        refine wp_block ?_
        refine wp_loop_F [15, 16, 104, 105, 106, 107, 108, 109, 110, 111, 112, 113, 114, 115, 116, 117, 118, 119, 120, 121, 122, 123, 124, 125, 126, 127, 128, 129, 130, 131, 132, 133, 134, 135, 136, 137, 138, 139, 140, 141, 142, 143] (fun n ts W' => ∃ (i : Nat) (y : Rg), n = sB.length - i ∧ ts 104 = .int .i64 (i : Int) ∧ i ≤ sB.length ∧ FlipOf r y 1 5 7 ∧ Mem [boxT yb (.cells (rgC y (.slice px 0 cx)).toArray 30 (0, 0)), boxT xb (.cells (rgC x (.slice px 0 cx)).toArray 30 (0, 0)), boxT b16 (.cells (rgC r (.slice px 0 cx)).toArray 30 (0, 0)), rowT elemI (.slice px 0 cx) ([] : List Int), oldT W0] H w W') (n0 := sB.length) ?_ ?_
        · exact ⟨0, r, rfl, rfl, Nat.zero_le _, flip_refl _ _ _ _, (Mem.only (M := [_, _, _, _, _]) HM64.out [1, 0, 0, 0, 0] rfl)⟩
        rintro n ts W' ⟨i, y, rfl, e104, hi, hfly', hm⟩
        simp only [putAll, List.map_cons, List.map_nil, Act.put, List.setIfInBounds_toArray, List.set_cons_succ, List.set_cons_zero]
        rw [e104]
        clear e104
        have hfly := Lib.hid hfly'
        clear hfly'
        have HM81 := Lib.hid hm
        clear hm
        refine wp_seq ?_
        refine wp_region_N [(0, 1)] (by kernel_rfl) ?_
        refine wpS_this [0] rfl (by kernel_rfl) (by simp only [pickL, nthL, List.cons_append, List.nil_append]; rfl) ?_
        repeat (go_big_quiet_step (fail))
        refine wpQuiet_nil ?_
        refine wpS_nil ?_
        refine then_normal ?_
        refine wp_seq ?_
        refine wp_cond_split rfl (fun h82 => ?_) (fun h82 => ?_)
        · have hi1 : i + 1 ≤ sB.length := by have : (i : Int) < ((sB.length : Nat) : Int) := (by simpa using h82); omega
          clear h82
          obtain ⟨z, hx'⟩ : ∃ y, sB[i]? = some y := ⟨_, List.getElem?_eq_getElem (hi1)⟩
          have hx := Lib.hid hx'
          clear hx'
          refine wp_skip ?_
          refine then_normal ?_
          refine wp_seq ?_
          refine wp_block ?_
          refine wp_seq ?_
          refine wp_region_N [(0, 1), (1, 1), (2, 1), (3, 1), (4, 1)] (by kernel_rfl) ?_
          refine wpS_this [0] rfl (by kernel_rfl) (by simp only [pickL, nthL, List.cons_append, List.nil_append]; rfl) ?_
          repeat (go_big_quiet_step (fail))
          refine wpQuiet_nil ?_
          refine wpS_index (E := elemI) (i := 1) (d := some 107) rfl (by rfl) rfl rfl rfl (HM81.out.row 4 rfl (srcOld hB).row) (hx.out) rfl ?_
          intro eb83 eo84 hc85
          simp only [Act.put, List.setIfInBounds_toArray, List.set_cons_succ, List.set_cons_zero]
          refine wpS_load1 (i := 2) (d := some 108) (u := .int .i64 z) rfl (by rfl) rfl rfl (hc85 0 _ rfl) Try.underlying3 rfl rfl ?_
          simp only [Act.put, List.setIfInBounds_toArray, List.set_cons_succ, List.set_cons_zero]
          refine wpS_this [3, 4] rfl (by kernel_rfl) (by simp only [pickL, nthL, List.cons_append, List.nil_append]; rfl) ?_
          repeat (go_big_quiet_step (fail))
          refine wpQuiet_nil ?_
          refine wpS_nil ?_
          refine then_normal ?_
          refine wp_seq ?_
          obtain ⟨m, hm16, hmn'⟩ := mod_small 16 (by decide) (by decide) z
          replace hm16 : m < 16 := by omega
          have hmn := Lib.hid hmn'
          clear hmn'
          refine wp_region_N [(0, 1), (1, 1), (2, 1), (3, 1), (4, 1)] (by kernel_rfl) ?_
          refine wpS_this [0, 1, 2] rfl (by kernel_rfl) (by simp only [pickL, nthL, List.cons_append, List.nil_append]; rfl) ?_
          repeat (go_big_quiet_step (fail))
          refine wpQuiet_nil ?_
          refine wpS_this [3] rfl (by kernel_rfl) (by simp only [pickL, nthL, List.cons_append, List.nil_append]; rfl) ?_
          repeat (go_big_quiet_step (fail))
          refine wpQuiet_nil ?_
          rw [hmn.out]
          refine wpS_this [4] rfl (by kernel_rfl) (by simp only [pickL, nthL, List.cons_append, List.nil_append]; rfl) ?_
          repeat (go_big_quiet_step (fail))
          refine wpQuiet_nil ?_
          refine wpS_nil ?_
          refine then_normal ?_
          refine wp_seq ?_
          rcases three_ways ((y.e m).2 = 1) (y.e m = r.e m) with k1 | ⟨k1, k2⟩ | ⟨k1, k2⟩
          · have g1 : ((y.e m).2 == 1) = false := beq_eq_false_iff_ne.2 k1
            clear k1
            refine wp_region_M (fun k => k ∈ ([] : List Nat)) [(0, 1), (1, 1), (2, 1), (3, 1), (4, 1), (5, 1), (6, 1), (7, 1), (8, 1), (9, 1), (10, 1), (11, 1), (12, 1), (13, 1), (14, 1), (15, 1), (16, 1)] (by kernel_rfl) (by kernel_rfl) HM81.out ?_
            intro W86 hm87
            have HM88 := Lib.hid hm87
            clear hm87
            refine wpS_this [0, 1] rfl (by kernel_rfl) (by simp only [pickL, nthL, List.cons_append, List.nil_append]; rfl) ?_
            repeat (go_big_quiet_step (fail))
            refine wpQuiet_nil ?_
            refine wpS_read (i := 2) (d := some 115) rfl (by rfl) (run_addrEnt (hm16) rfl rfl rfl) rfl ?_
            simp only [Act.put, List.setIfInBounds_toArray, List.set_cons_succ, List.set_cons_zero]
            refine wpS_this [3] rfl (by kernel_rfl) (by simp only [pickL, nthL, List.cons_append, List.nil_append]; rfl) ?_
            repeat (go_big_quiet_step (fail))
            refine wpQuiet_nil ?_
            refine wpS_load1 (i := 4) (d := some 117) (u := _) rfl (by rfl) rfl rfl (HM88.out.sub1 0 rfl (rgC_e2 (hm16))) Try.underlying3 rfl rfl ?_
            simp only [Act.put, List.setIfInBounds_toArray, List.set_cons_succ, List.set_cons_zero]
            refine wpS_this [5, 6, 7, 8] rfl (by kernel_rfl) (by simp only [pickL, nthL, List.cons_append, List.nil_append]; rfl) ?_
            repeat (go_big_quiet_step (fail))
            refine wpQuiet_nil ?_
            refine wpS_skip (i := 9) (d := some 122) rfl (by rfl) rfl ?_
            simp only [Act.put, List.setIfInBounds_toArray, List.set_cons_succ, List.set_cons_zero]
            refine wpS_skip (i := 10) (d := some 123) rfl (by rfl) rfl ?_
            simp only [Act.put, List.setIfInBounds_toArray, List.set_cons_succ, List.set_cons_zero]
            refine wpS_this [11, 12] rfl (by kernel_rfl) (by simp only [pickL, nthL, List.cons_append, List.nil_append]; rfl) ?_
            repeat (go_big_quiet_step (fail))
            refine wpQuiet_nil ?_
            refine wpS_skip (i := 13) (d := some 126) rfl (by rfl) rfl ?_
            simp only [Act.put, List.setIfInBounds_toArray, List.set_cons_succ, List.set_cons_zero]
            refine wpS_skip (i := 14) (d := some 127) rfl (by rfl) rfl ?_
            simp only [Act.put, List.setIfInBounds_toArray, List.set_cons_succ, List.set_cons_zero]
            refine wpS_skip (i := 15) (d := some 128) rfl (by rfl) rfl ?_
            simp only [Act.put, List.setIfInBounds_toArray, List.set_cons_succ, List.set_cons_zero]
            refine wpS_this [16] rfl (by kernel_rfl) (by simp only [pickL, nthL, List.cons_append, List.nil_append]; rfl) ?_
            repeat (go_big_quiet_step (fail))
            refine wpQuiet_nil ?_
            refine wpS_nil ?_
            refine then_normal ?_
            refine wp_cond_false rfl ?_
            refine wp_skip ?_
            refine block_normal ?_
            refine then_normal ?_
            refine wp_region_N [(0, 1), (1, 1)] (by kernel_rfl) ?_
            refine wpS_this [0, 1] rfl (by kernel_rfl) (by simp only [pickL, nthL, List.cons_append, List.nil_append]; rfl) ?_
            repeat (go_big_quiet_step (fail))
            refine wpQuiet_nil ?_
            refine wpS_nil ?_
            refine then_normal ?_
            refine ⟨by kernel_rfl, ?_⟩
            exact ⟨sB.length - (i + 1), by omega, i + 1, y, rfl, rfl, hi1, hfly.out, (Mem.only (M := [_, _, _, _, _]) HM88.out [0, 0, 0, 0, 0] rfl)⟩
          · have g1 : ((y.e m).2 == 1) = true := beq_iff_eq.2 k1
            have g2 : decide (y.e m = r.e m) = false := decide_eq_false k2
            clear k1 k2
            refine wp_region_M (fun k => k ∈ ([] : List Nat)) [(0, 1), (1, 1), (2, 1), (3, 1), (4, 1), (5, 1), (6, 1), (7, 1), (8, 1), (9, 1), (10, 1), (11, 1), (12, 1), (13, 1), (14, 1), (15, 1), (16, 1)] (by kernel_rfl) (by kernel_rfl) HM81.out ?_
            intro W89 hm90
            have HM91 := Lib.hid hm90
            clear hm90
            refine wpS_this [0, 1] rfl (by kernel_rfl) (by simp only [pickL, nthL, List.cons_append, List.nil_append]; rfl) ?_
            repeat (go_big_quiet_step (fail))
            refine wpQuiet_nil ?_
            refine wpS_read (i := 2) (d := some 115) rfl (by rfl) (run_addrEnt (hm16) rfl rfl rfl) rfl ?_
            simp only [Act.put, List.setIfInBounds_toArray, List.set_cons_succ, List.set_cons_zero]
            refine wpS_this [3] rfl (by kernel_rfl) (by simp only [pickL, nthL, List.cons_append, List.nil_append]; rfl) ?_
            repeat (go_big_quiet_step (fail))
            refine wpQuiet_nil ?_
            refine wpS_load1 (i := 4) (d := some 117) (u := _) rfl (by rfl) rfl rfl (HM91.out.sub1 0 rfl (rgC_e2 (hm16))) Try.underlying3 rfl rfl ?_
            simp only [Act.put, List.setIfInBounds_toArray, List.set_cons_succ, List.set_cons_zero]
            refine wpS_this [5, 6, 7, 8] rfl (by kernel_rfl) (by simp only [pickL, nthL, List.cons_append, List.nil_append]; rfl) ?_
            repeat (go_big_quiet_step (fail))
            refine wpQuiet_nil ?_
            refine wpS_read (i := 9) (d := some 122) rfl (by rfl) (run_addrEnt (hm16) rfl rfl rfl) rfl ?_
            simp only [Act.put, List.setIfInBounds_toArray, List.set_cons_succ, List.set_cons_zero]
            refine wpS_loadA (i := 10) (d := some 123) (cells := eC _) rfl (by rfl) rfl rfl (HM91.out.sub 0 rfl (rgC_e (hm16))) Try.underlying27 rfl (by kernel_rfl) rfl ?_
            dsimp only [eC]
            simp only [Act.put, List.setIfInBounds_toArray, List.set_cons_succ, List.set_cons_zero]
            refine wpS_this [11, 12] rfl (by kernel_rfl) (by simp only [pickL, nthL, List.cons_append, List.nil_append]; rfl) ?_
            repeat (go_big_quiet_step (fail))
            refine wpQuiet_nil ?_
            refine wpS_read (i := 13) (d := some 126) rfl (by rfl) (run_addrEnt (hm16) rfl rfl rfl) rfl ?_
            simp only [Act.put, List.setIfInBounds_toArray, List.set_cons_succ, List.set_cons_zero]
            refine wpS_loadA (i := 14) (d := some 127) (cells := eC _) rfl (by rfl) rfl rfl (HM91.out.sub 2 rfl (rgC_e (hm16))) Try.underlying27 rfl (by kernel_rfl) rfl ?_
            dsimp only [eC]
            simp only [Act.put, List.setIfInBounds_toArray, List.set_cons_succ, List.set_cons_zero]
            refine wpS_read (i := 15) (d := some 128) rfl (by rfl) (run_eqEb (p := (y.e m)) (q := (r.e m)) g2 rfl rfl rfl) rfl ?_
            simp only [Act.put, List.setIfInBounds_toArray, List.set_cons_succ, List.set_cons_zero]
            refine wpS_this [16] rfl (by kernel_rfl) (by simp only [pickL, nthL, List.cons_append, List.nil_append]; rfl) ?_
            repeat (go_big_quiet_step (fail))
            refine wpQuiet_nil ?_
            refine wpS_nil ?_
            refine then_normal ?_
            refine wp_cond_false rfl ?_
            refine wp_skip ?_
            refine block_normal ?_
            refine then_normal ?_
            refine wp_region_N [(0, 1), (1, 1)] (by kernel_rfl) ?_
            refine wpS_this [0, 1] rfl (by kernel_rfl) (by simp only [pickL, nthL, List.cons_append, List.nil_append]; rfl) ?_
            repeat (go_big_quiet_step (fail))
            refine wpQuiet_nil ?_
            refine wpS_nil ?_
            refine then_normal ?_
            refine ⟨by kernel_rfl, ?_⟩
            exact ⟨sB.length - (i + 1), by omega, i + 1, y, rfl, rfl, hi1, hfly.out, (Mem.only (M := [_, _, _, _, _]) HM91.out [0, 0, 0, 0, 0] rfl)⟩
          · have g1 : ((y.e m).2 == 1) = true := beq_iff_eq.2 k1
            have g2 : decide (y.e m = r.e m) = true := decide_eq_true k2
            have hbd := hbase.out.2.2 m hm16
            rw [← k2] at hbd
            have hbd0 := hbd.1
            have hbd1 := hbd.2.1
            clear hbd
            obtain ⟨q, hq'⟩ := int_letter ((i : Int) % 3)
            have hq0 : 0 ≤ q := by omega
            have hq2 : q ≤ 2 := by omega
            have hq := Lib.hid hq'
            clear hq'
            have hxe := Lib.hid k2
            have hxo := Lib.hid k1
            clear k1 k2
            refine wp_region_M (fun k => k ∈ ([] : List Nat)) [(0, 1), (1, 1), (2, 1), (3, 1), (4, 1), (5, 1), (6, 1), (7, 1), (8, 1), (9, 1), (10, 1), (11, 1), (12, 1), (13, 1), (14, 1), (15, 1), (16, 1)] (by kernel_rfl) (by kernel_rfl) HM81.out ?_
            intro W92 hm93
            have HM94 := Lib.hid hm93
            clear hm93
            refine wpS_this [0, 1] rfl (by kernel_rfl) (by simp only [pickL, nthL, List.cons_append, List.nil_append]; rfl) ?_
            repeat (go_big_quiet_step (fail))
            refine wpQuiet_nil ?_
            refine wpS_read (i := 2) (d := some 115) rfl (by rfl) (run_addrEnt (hm16) rfl rfl rfl) rfl ?_
            simp only [Act.put, List.setIfInBounds_toArray, List.set_cons_succ, List.set_cons_zero]
            refine wpS_this [3] rfl (by kernel_rfl) (by simp only [pickL, nthL, List.cons_append, List.nil_append]; rfl) ?_
            repeat (go_big_quiet_step (fail))
            refine wpQuiet_nil ?_
            refine wpS_load1 (i := 4) (d := some 117) (u := _) rfl (by rfl) rfl rfl (HM94.out.sub1 0 rfl (rgC_e2 (hm16))) Try.underlying3 rfl rfl ?_
            simp only [Act.put, List.setIfInBounds_toArray, List.set_cons_succ, List.set_cons_zero]
            refine wpS_this [5, 6, 7, 8] rfl (by kernel_rfl) (by simp only [pickL, nthL, List.cons_append, List.nil_append]; rfl) ?_
            repeat (go_big_quiet_step (fail))
            refine wpQuiet_nil ?_
            refine wpS_read (i := 9) (d := some 122) rfl (by rfl) (run_addrEnt (hm16) rfl rfl rfl) rfl ?_
            simp only [Act.put, List.setIfInBounds_toArray, List.set_cons_succ, List.set_cons_zero]
            refine wpS_loadA (i := 10) (d := some 123) (cells := eC _) rfl (by rfl) rfl rfl (HM94.out.sub 0 rfl (rgC_e (hm16))) Try.underlying27 rfl (by kernel_rfl) rfl ?_
            dsimp only [eC]
            simp only [Act.put, List.setIfInBounds_toArray, List.set_cons_succ, List.set_cons_zero]
            refine wpS_this [11, 12] rfl (by kernel_rfl) (by simp only [pickL, nthL, List.cons_append, List.nil_append]; rfl) ?_
            repeat (go_big_quiet_step (fail))
            refine wpQuiet_nil ?_
            refine wpS_read (i := 13) (d := some 126) rfl (by rfl) (run_addrEnt (hm16) rfl rfl rfl) rfl ?_
            simp only [Act.put, List.setIfInBounds_toArray, List.set_cons_succ, List.set_cons_zero]
            refine wpS_loadA (i := 14) (d := some 127) (cells := eC _) rfl (by rfl) rfl rfl (HM94.out.sub 2 rfl (rgC_e (hm16))) Try.underlying27 rfl (by kernel_rfl) rfl ?_
            dsimp only [eC]
            simp only [Act.put, List.setIfInBounds_toArray, List.set_cons_succ, List.set_cons_zero]
            refine wpS_read (i := 15) (d := some 128) rfl (by rfl) (run_eqEb (p := (y.e m)) (q := (r.e m)) g2 rfl rfl rfl) rfl ?_
            simp only [Act.put, List.setIfInBounds_toArray, List.set_cons_succ, List.set_cons_zero]
            refine wpS_this [16] rfl (by kernel_rfl) (by simp only [pickL, nthL, List.cons_append, List.nil_append]; rfl) ?_
            repeat (go_big_quiet_step (fail))
            refine wpQuiet_nil ?_
            refine wpS_nil ?_
            refine then_normal ?_
            refine wp_cond_true rfl ?_
            refine wp_region_N [(0, 1), (1, 1), (2, 1), (3, 1), (4, 1), (5, 1), (6, 1), (7, 1), (8, 1), (9, 1), (10, 1), (11, 1), (12, 1), (13, 3)] (by kernel_rfl) ?_
            refine wpS_this [0, 1, 2] rfl (by kernel_rfl) (by simp only [pickL, nthL, List.cons_append, List.nil_append]; rfl) ?_
            repeat (go_big_quiet_step (fail))
            refine wpQuiet_nil ?_
            refine wpS_read (i := 3) (d := some 133) rfl (by rfl) (run_addrEnt (hm16) rfl rfl rfl) rfl ?_
            simp only [Act.put, List.setIfInBounds_toArray, List.set_cons_succ, List.set_cons_zero]
            refine wpS_this [4] rfl (by kernel_rfl) (by simp only [pickL, nthL, List.cons_append, List.nil_append]; rfl) ?_
            repeat (go_big_quiet_step (fail))
            refine wpQuiet_nil ?_
            refine wpS_load1 (i := 5) (d := some 135) (u := _) rfl (by rfl) rfl rfl (HM94.out.sub1 0 rfl (rgC_e1 (hm16))) Try.underlying3 rfl rfl ?_
            simp only [Act.put, List.setIfInBounds_toArray, List.set_cons_succ, List.set_cons_zero]
            refine wpS_this [6, 7] rfl (by kernel_rfl) (by simp only [pickL, nthL, List.cons_append, List.nil_append]; rfl) ?_
            repeat (go_big_quiet_step (fail))
            refine wpQuiet_nil ?_
            refine wpS_this [8] rfl (by kernel_rfl) (by simp only [pickL, nthL, List.cons_append, List.nil_append]; rfl) ?_
            repeat (go_big_quiet_step (fail))
            refine wpQuiet_nil ?_
            rw [hq.out]
            refine wpS_this [9, 10, 11] rfl (by kernel_rfl) (by simp only [pickL, nthL, List.cons_append, List.nil_append]; rfl) ?_
            repeat (go_big_quiet_step (fail))
            refine wpQuiet_nil ?_
            refine wpS_read (i := 12) (d := some 142) rfl (by rfl) (run_addrEnt (hm16) rfl rfl rfl) rfl ?_
            simp only [Act.put, List.setIfInBounds_toArray, List.set_cons_succ, List.set_cons_zero]
            refine wpS_storeA (i := 13) (L2 := [_, _, _, _]) (cs' := rgC (⟨y.s, y.p, upd y.e m ((y.e m).1 + 1, 5 + q)⟩) (.slice px 0 cx)) rfl (by rfl) rfl rfl rfl (by kernel_rfl) (by rfl) HM94.out 0 rfl rfl (Nat.ble_eq_true_of_le (by rw [rgC_len]; show _ + 2 ≤ _; have := hm16; omega)) (rgC_setE (hm16) (((y.e m).1 + 1, 5 + q))) covS_nil rfl ?_
            rintro W96 hm95 -
            have HM97 := Lib.hid hm95
            clear hm95
            refine wpS_nil ?_
            refine block_normal ?_
            refine then_normal ?_
            refine wp_region_N [(0, 1), (1, 1)] (by kernel_rfl) ?_
            refine wpS_this [0, 1] rfl (by kernel_rfl) (by simp only [pickL, nthL, List.cons_append, List.nil_append]; rfl) ?_
            repeat (go_big_quiet_step (fail))
            refine wpQuiet_nil ?_
            refine wpS_nil ?_
            refine then_normal ?_
            refine ⟨by kernel_rfl, ?_⟩
            refine ⟨sB.length - (i + 1), by omega, i + 1, ⟨y.s, y.p, upd y.e m ((y.e m).1 + 1, 5 + q)⟩, rfl, rfl, hi1, flip_set hfly.out hxe.out hxo.out (by omega) (by omega), (Mem.only (M := [_, _, _, _, _]) HM97.out [0, 0, 0, 0, 0] rfl)⟩
        · clear h82
          refine wp_exit ?_
          refine then_exit (then_exit (block_exit ?_))
          refine then_normal ?_
          refine wp_seq ?_
          have hxp : Hid (x.p = (0, 0, [])) := Lib.hid (hflx.out.2.1.trans hbase.out.2.1)
          have hyp : Hid (y.p = (0, 0, [])) := Lib.hid (hfly.out.2.1.trans hbase.out.2.1)
          have hrp : Hid (r.p = (0, 0, [])) := Lib.hid hbase.out.2.1
          obtain ⟨j, hj'⟩ := ring_letter (joinR x y)
          have hj := Lib.hid hj'
          clear hj'
          have hjl : Hid (j.p.2.2.length = 0) := Lib.hid (by rw [← hj.out]; show (joinP x.p y.p).2.2.length = 0; rw [hxp.out, hyp.out]; rfl)
          have lj : j.p.2.2.length ≤ 1000 := by rw [hjl.out]; decide
          have hmj : Hid (mayR j = true) := Lib.hid (by rw [← hj.out]; exact flip_mayj hbase.out hflx.out hfly.out)
          have hbel : Hid (belowR r j = true) := Lib.hid (by rw [← hj.out]; exact flip_below hflx.out)
          have hown : Hid (∀ p : Nat, p < 16 → ownerR j p = (j.e p).2) := Lib.hid (fun p hp => by rw [← hj.out]; exact flip_own hbase.out hflx.out hfly.out hp)
          have hjn : Hid (∀ p : Nat, p < 16 → j.e p = if y.e p = r.e p then x.e p else y.e p) := Lib.hid (fun p hp => by rw [← hj.out]; exact flip_join hflx.out hfly.out hp)
          refine wp_region_N [(0, 1), (1, 1), (2, 3), (3, 3), (4, 3)] (by kernel_rfl) ?_
          refine wpS_loadA (i := 0) (d := some 144) (cells := rgC (x) (.slice px 0 cx)) rfl (by rfl) rfl rfl (HM81.out.sub 1 rfl (fun k u h => by rw [Nat.zero_add]; exact h)) Try.underlying30 rfl (by kernel_rfl) rfl ?_
          simp only [Act.put, List.setIfInBounds_toArray, List.set_cons_succ, List.set_cons_zero]
          refine wpS_loadA (i := 1) (d := some 145) (cells := rgC (y) (.slice px 0 cx)) rfl (by rfl) rfl rfl (HM81.out.sub 0 rfl (fun k u h => by rw [Nat.zero_add]; exact h)) Try.underlying30 rfl (by kernel_rfl) rfl ?_
          simp only [Act.put, List.setIfInBounds_toArray, List.set_cons_succ, List.set_cons_zero]
          refine wpS_doesU2 (i := 2) (d := some 146) (rem := [_, _, _, _]) rfl (by rfl) rfl Try.call10 (gjoin_d (rowT elemI (.slice px 0 cx) ([] : List Int)) (.slice px 0 cx) x (by rw [hxp.out]; exact rowT_reads) (by rw [hxp.out]; decide) (.slice px 0 cx) y (by rw [hyp.out]; exact rowT_reads) (by rw [hyp.out]; decide) j hj.out) rfl rfl HM81.out [3] rfl covS_nil (fun _ => rfl) rfl ?_
          rintro u100 W99 hm98 -
          obtain ⟨pj, cj, rfl, hm98q⟩ := Mem.ring (n := 0) hjl.out hm98
          clear hm98
          have HM101 := Lib.hid hm98q
          clear hm98q
          simp only [Act.put, List.setIfInBounds_toArray, List.set_cons_succ, List.set_cons_zero]
          refine wpS_alloc (i := 3) (dd := 17) (z := rgV noR (.slice none 0 0)) (cs := (rgC noR (.slice none 0 0)).toArray) rfl (by rfl) rfl (by kernel_rfl) rfl HM101.out covS_nil rfl ?_
          rintro b104 W103 hm102 -
          have HM105 := Lib.hid hm102
          clear hm102
          simp only [Act.put, List.setIfInBounds_toArray, List.set_cons_succ, List.set_cons_zero]
          refine wpS_storeA (i := 4) (L2 := [_, _, _, _, _, _]) (cs' := rgC (j) (.slice pj 0 cj)) rfl (by rfl) rfl rfl rfl (by kernel_rfl) (rgC_one _ _ _) HM105.out 0 rfl rfl (by kernel_rfl) (by kernel_rfl) covS_nil rfl ?_
          rintro W107 hm106 -
          have HM108 := Lib.hid hm106
          clear hm106
          refine wpS_nil ?_
          refine then_normal ?_
          refine wp_seq ?_
          refine wp_seq ?_
          refine wp_region_N [(0, 1)] (by kernel_rfl) ?_
          refine wpS_this [0] rfl (by kernel_rfl) (by simp only [pickL, nthL, List.cons_append, List.nil_append]; rfl) ?_
          repeat (go_big_quiet_step (fail))
          refine wpQuiet_nil ?_
          refine wpS_nil ?_
          refine then_normal ?_
          refine wp_block ?_
          refine wp_loop_F [6, 18, 19, 147, 148, 149, 150, 151, 152, 153, 154, 155, 156, 157, 158, 159, 160, 161, 162, 163, 164, 165, 166, 167, 168, 169, 170, 171, 172, 173, 174, 175, 176, 177, 178, 179, 180, 181] (fun n us W' => ∃ k : Nat, n = 16 - k ∧ us 147 = .int .i64 (k : Int) ∧ k ≤ 16 ∧ True ∧ Mem [boxT b104 (.cells (rgC j (.slice pj 0 cj)).toArray 30 (0, 0)), rowT elemI (.slice pj 0 cj) j.p.2.2, boxT yb (.cells (rgC y (.slice px 0 cx)).toArray 30 (0, 0)), boxT xb (.cells (rgC x (.slice px 0 cx)).toArray 30 (0, 0)), boxT b16 (.cells (rgC r (.slice px 0 cx)).toArray 30 (0, 0)), rowT elemI (.slice px 0 cx) ([] : List Int), oldT W0] H w W') (n0 := 16) ?_ ?_
          · exact ⟨0, rfl, rfl, Nat.zero_le _, trivial, (Mem.only (M := [_, _, _, _, _, _, _]) HM108.out [0, 0, 1, 1, 1, 0, 0] rfl)⟩
          rintro n us W' ⟨k, rfl, e147, hk, hf', hm⟩
          simp only [putAll, List.map_cons, List.map_nil, Act.put, List.setIfInBounds_toArray, List.set_cons_succ, List.set_cons_zero]
          rw [e147]
          clear e147
          have hf := Lib.hid hf'
          clear hf'
          have HM109 := Lib.hid hm
          clear hm
          refine wp_seq ?_
          refine wp_region_N [(0, 1)] (by kernel_rfl) ?_
          refine wpS_this [0] rfl (by kernel_rfl) (by simp only [pickL, nthL, List.cons_append, List.nil_append]; rfl) ?_
          repeat (go_big_quiet_step (fail))
          refine wpQuiet_nil ?_
          refine wpS_nil ?_
          refine then_normal ?_
          refine wp_seq ?_
          refine wp_cond_split rfl (fun h110 => ?_) (fun h110 => ?_)
          · have hk1 : k + 1 ≤ 16 := by have : (k : Int) < 16 := (by simpa using h110); omega
            clear h110
            refine wp_skip ?_
            refine then_normal ?_
            refine wp_seq ?_
            refine wp_block ?_
            refine wp_seq ?_
            have hk16 : k < 16 := by omega
            refine wp_region_N [(0, 1), (1, 1)] (by kernel_rfl) ?_
            refine wpS_this [0, 1] rfl (by kernel_rfl) (by simp only [pickL, nthL, List.cons_append, List.nil_append]; rfl) ?_
            repeat (go_big_quiet_step (fail))
            refine wpQuiet_nil ?_
            refine wpS_nil ?_
            refine then_normal ?_
            refine wp_seq ?_
            refine wp_region_N [(0, 1), (1, 1), (2, 1), (3, 1), (4, 3), (5, 3)] (by kernel_rfl) ?_
            refine wpS_this [0, 1] rfl (by kernel_rfl) (by simp only [pickL, nthL, List.cons_append, List.nil_append]; rfl) ?_
            repeat (go_big_quiet_step (fail))
            refine wpQuiet_nil ?_
            refine wpS_read (i := 2) (d := some 152) rfl (by rfl) (run_addrEnt (hk16) rfl rfl rfl) rfl ?_
            simp only [Act.put, List.setIfInBounds_toArray, List.set_cons_succ, List.set_cons_zero]
            refine wpS_loadA (i := 3) (d := some 153) (cells := eC _) rfl (by rfl) rfl rfl (HM109.out.sub 3 rfl (rgC_e (hk16))) Try.underlying27 rfl (by kernel_rfl) rfl ?_
            dsimp only [eC]
            simp only [Act.put, List.setIfInBounds_toArray, List.set_cons_succ, List.set_cons_zero]
            refine wpS_alloc (i := 4) (dd := 19) (z := .agg #[.int .i64 0, .int .i64 0]) (cs := #[.int .i64 0, .int .i64 0]) rfl (by rfl) rfl (by kernel_rfl) rfl HM109.out covS_nil rfl ?_
            rintro b113 W112 hm111 -
            have HM114 := Lib.hid hm111
            clear hm111
            simp only [Act.put, List.setIfInBounds_toArray, List.set_cons_succ, List.set_cons_zero]
            refine wpS_storeA (i := 5) (L2 := [_, _, _, _, _, _, _]) (cs' := [_, _]) rfl (by rfl) rfl rfl rfl (by kernel_rfl) (by rfl) HM114.out 0 rfl rfl rfl rfl covS_nil rfl ?_
            rintro W116 hm115 -
            have HM117 := Lib.hid hm115
            clear hm115
            refine wpS_nil ?_
            refine then_normal ?_
            refine wp_seq ?_
            refine wp_seq ?_
            by_cases hyr : y.e k = r.e k
            · have gy : (!decide (y.e k = r.e k)) = false := by simp [hyr]
              have hwant : Hid (j.e k = x.e k) := Lib.hid ((hjn.out k hk16).trans (if_pos hyr))
              clear hyr
              refine wp_region_M (fun k => k ∈ ([] : List Nat)) [(0, 1), (1, 1), (2, 1), (3, 1), (4, 1), (5, 1), (6, 1), (7, 1), (8, 1)] (by kernel_rfl) (by kernel_rfl) HM117.out ?_
              intro W118 hm119
              have HM120 := Lib.hid hm119
              clear hm119
              refine wpS_this [0, 1] rfl (by kernel_rfl) (by simp only [pickL, nthL, List.cons_append, List.nil_append]; rfl) ?_
              repeat (go_big_quiet_step (fail))
              refine wpQuiet_nil ?_
              refine wpS_read (i := 2) (d := some 156) rfl (by rfl) (run_addrEnt (hk16) rfl rfl rfl) rfl ?_
              simp only [Act.put, List.setIfInBounds_toArray, List.set_cons_succ, List.set_cons_zero]
              refine wpS_loadA (i := 3) (d := some 157) (cells := eC _) rfl (by rfl) rfl rfl (HM120.out.sub 3 rfl (rgC_e (hk16))) Try.underlying27 rfl (by kernel_rfl) rfl ?_
              dsimp only [eC]
              simp only [Act.put, List.setIfInBounds_toArray, List.set_cons_succ, List.set_cons_zero]
              refine wpS_this [4, 5] rfl (by kernel_rfl) (by simp only [pickL, nthL, List.cons_append, List.nil_append]; rfl) ?_
              repeat (go_big_quiet_step (fail))
              refine wpQuiet_nil ?_
              refine wpS_read (i := 6) (d := some 160) rfl (by rfl) (run_addrEnt (hk16) rfl rfl rfl) rfl ?_
              simp only [Act.put, List.setIfInBounds_toArray, List.set_cons_succ, List.set_cons_zero]
              refine wpS_loadA (i := 7) (d := some 161) (cells := eC _) rfl (by rfl) rfl rfl (HM120.out.sub 5 rfl (rgC_e (hk16))) Try.underlying27 rfl (by kernel_rfl) rfl ?_
              dsimp only [eC]
              simp only [Act.put, List.setIfInBounds_toArray, List.set_cons_succ, List.set_cons_zero]
              refine wpS_read (i := 8) (d := some 162) rfl (by rfl) (run_neEb (p := (y.e k)) (q := (r.e k)) gy rfl rfl rfl) rfl ?_
              simp only [Act.put, List.setIfInBounds_toArray, List.set_cons_succ, List.set_cons_zero]
              refine wpS_nil ?_
              refine then_normal ?_
              refine wp_cond_false rfl ?_
              refine wp_skip ?_
              refine then_normal ?_
              refine wp_seq ?_
              skip
              · have gw : (!decide (j.e k = x.e k)) = false := by rw [hwant.out]; exact ne_selfE _
                have gz : ((j.e k).2 != (x.e k).2) = false := by rw [hwant.out]; exact bne_self_eq_false _
                refine wp_region_M (fun k => k ∈ ([b104, b113] : List Nat)) [(0, 1), (1, 1), (2, 1), (3, 1), (4, 1), (5, 1), (6, 1), (7, 1), (8, 1), (10, 0), (11, 2), (9, 3), (12, 1), (13, 1)] (by kernel_rfl) (by kernel_rfl) HM120.out ?_
                intro W121 hm122
                have HM123 := Lib.hid hm122
                clear hm122
                refine wpS_this [0, 1] rfl (by kernel_rfl) (by simp only [pickL, nthL, List.cons_append, List.nil_append]; rfl) ?_
                repeat (go_big_quiet_step (fail))
                refine wpQuiet_nil ?_
                refine wpS_read (i := 2) (d := some 169) rfl (by rfl) (run_addrEnt (hk16) rfl rfl rfl) rfl ?_
                simp only [Act.put, List.setIfInBounds_toArray, List.set_cons_succ, List.set_cons_zero]
                refine wpS_loadA (i := 3) (d := some 170) (cells := eC _) rfl (by rfl) rfl rfl (HM123.out.sub 1 rfl (rgC_e (hk16))) Try.underlying27 rfl (by kernel_rfl) rfl ?_
                dsimp only [eC]
                simp only [Act.put, List.setIfInBounds_toArray, List.set_cons_succ, List.set_cons_zero]
                have Cb19 := Mem.cell HM123.out 0 rfl
                refine wpS_this [4] rfl (by kernel_rfl) (by simp only [pickL, nthL, List.cons_append, List.nil_append]; rfl) ?_
                repeat (go_big_quiet_step (fail))
                refine wpQuiet_nil ?_
                clear Cb19
                refine wpS_read (i := 5) (d := some 172) rfl (by rfl) (run_neEb (p := (j.e k)) (q := (x.e k)) gw rfl rfl rfl) rfl ?_
                simp only [Act.put, List.setIfInBounds_toArray, List.set_cons_succ, List.set_cons_zero]
                refine wpS_this [6] rfl (by kernel_rfl) (by simp only [pickL, nthL, List.cons_append, List.nil_append]; rfl) ?_
                repeat (go_big_quiet_step (fail))
                refine wpQuiet_nil ?_
                refine wpS_loadA (i := 7) (d := some 174) (cells := rgC (j) (.slice pj 0 cj)) rfl (by rfl) rfl rfl (HM123.out.sub 1 rfl (fun k u h => by rw [Nat.zero_add]; exact h)) Try.underlying30 rfl (by kernel_rfl) rfl ?_
                simp only [Act.put, List.setIfInBounds_toArray, List.set_cons_succ, List.set_cons_zero]
                refine wpS_this [8] rfl (by kernel_rfl) (by simp only [pickL, nthL, List.cons_append, List.nil_append]; rfl) ?_
                repeat (go_big_quiet_step (fail))
                refine wpQuiet_nil ?_
                refine wpS_all [10] rfl (by kernel_rfl) (by simp only [pickL, nthL, List.cons_append, List.nil_append]; rfl) ?_
                repeat (go_big_quiet_step (fail))
                refine wpQuiet_nil ?_
                have Cb19 := Mem.cell HM123.out 0 rfl
                refine wpS_stay [11] rfl (by kernel_rfl) (by simp only [pickL, nthL, List.cons_append, List.nil_append]; rfl) ?_
                repeat (go_big_quiet_step (fail))
                refine wpQuiet_nil ?_
                clear Cb19
                refine wpS_does2 (i := 9) (d := some 176) (rem := [_, _, _, _, _, _, _]) (out := [_, _, _, _, _, _, _, _]) rfl (by rfl) rfl Try.call17 (gowner_d (rowT elemI _ _) _ j rowT_reads lj k) rfl rfl HM123.out [2] rfl (covS_box 1 rfl (covS_box 0 rfl covS_nil)) rfl rfl ?_
                rintro W125 hm124 hg126
                rw [hown.out k hk16]
                have HM127 := Lib.hid hm124
                clear hm124
                simp only [Act.put, List.setIfInBounds_toArray, List.set_cons_succ, List.set_cons_zero]
                refine wpS_this [12, 13] rfl (by kernel_rfl) (by simp only [pickL, nthL, List.cons_append, List.nil_append]; rfl) ?_
                repeat (go_big_quiet_step (fail))
                refine wpQuiet_nil ?_
                refine wpS_nil ?_
                refine then_normal ?_
                refine wp_cond_false rfl ?_
                refine wp_skip ?_
                refine block_normal ?_
                refine then_normal ?_
                refine wp_region_N [(0, 1), (1, 1)] (by kernel_rfl) ?_
                refine wpS_this [0, 1] rfl (by kernel_rfl) (by simp only [pickL, nthL, List.cons_append, List.nil_append]; rfl) ?_
                repeat (go_big_quiet_step (fail))
                refine wpQuiet_nil ?_
                refine wpS_nil ?_
                refine then_normal ?_
                refine ⟨by kernel_rfl, ?_⟩
                refine ⟨16 - (k + 1), by omega, k + 1, rfl, rfl, hk1, trivial, (Mem.only (M := [_, _, _, _, _, _, _]) HM127.out [2, 0, 1, 1, 1, 1, 1] rfl)⟩
            · have gy : (!decide (y.e k = r.e k)) = true := by simp [hyr]
              have hwant : Hid (j.e k = y.e k) := Lib.hid ((hjn.out k hk16).trans (if_neg hyr))
              clear hyr
              refine wp_region_M (fun k => k ∈ ([] : List Nat)) [(0, 1), (1, 1), (2, 1), (3, 1), (4, 1), (5, 1), (6, 1), (7, 1), (8, 1)] (by kernel_rfl) (by kernel_rfl) HM117.out ?_
              intro W128 hm129
              have HM130 := Lib.hid hm129
              clear hm129
              refine wpS_this [0, 1] rfl (by kernel_rfl) (by simp only [pickL, nthL, List.cons_append, List.nil_append]; rfl) ?_
              repeat (go_big_quiet_step (fail))
              refine wpQuiet_nil ?_
              refine wpS_read (i := 2) (d := some 156) rfl (by rfl) (run_addrEnt (hk16) rfl rfl rfl) rfl ?_
              simp only [Act.put, List.setIfInBounds_toArray, List.set_cons_succ, List.set_cons_zero]
              refine wpS_loadA (i := 3) (d := some 157) (cells := eC _) rfl (by rfl) rfl rfl (HM130.out.sub 3 rfl (rgC_e (hk16))) Try.underlying27 rfl (by kernel_rfl) rfl ?_
              dsimp only [eC]
              simp only [Act.put, List.setIfInBounds_toArray, List.set_cons_succ, List.set_cons_zero]
              refine wpS_this [4, 5] rfl (by kernel_rfl) (by simp only [pickL, nthL, List.cons_append, List.nil_append]; rfl) ?_
              repeat (go_big_quiet_step (fail))
              refine wpQuiet_nil ?_
              refine wpS_read (i := 6) (d := some 160) rfl (by rfl) (run_addrEnt (hk16) rfl rfl rfl) rfl ?_
              simp only [Act.put, List.setIfInBounds_toArray, List.set_cons_succ, List.set_cons_zero]
              refine wpS_loadA (i := 7) (d := some 161) (cells := eC _) rfl (by rfl) rfl rfl (HM130.out.sub 5 rfl (rgC_e (hk16))) Try.underlying27 rfl (by kernel_rfl) rfl ?_
              dsimp only [eC]
              simp only [Act.put, List.setIfInBounds_toArray, List.set_cons_succ, List.set_cons_zero]
              refine wpS_read (i := 8) (d := some 162) rfl (by rfl) (run_neEb (p := (y.e k)) (q := (r.e k)) gy rfl rfl rfl) rfl ?_
              simp only [Act.put, List.setIfInBounds_toArray, List.set_cons_succ, List.set_cons_zero]
              refine wpS_nil ?_
              refine then_normal ?_
              refine wp_cond_true rfl ?_
              refine wp_region_N [(0, 1), (1, 1), (2, 1), (3, 1), (4, 3)] (by kernel_rfl) ?_
              refine wpS_this [0, 1] rfl (by kernel_rfl) (by simp only [pickL, nthL, List.cons_append, List.nil_append]; rfl) ?_
              repeat (go_big_quiet_step (fail))
              refine wpQuiet_nil ?_
              refine wpS_read (i := 2) (d := some 165) rfl (by rfl) (run_addrEnt (hk16) rfl rfl rfl) rfl ?_
              simp only [Act.put, List.setIfInBounds_toArray, List.set_cons_succ, List.set_cons_zero]
              refine wpS_loadA (i := 3) (d := some 166) (cells := eC _) rfl (by rfl) rfl rfl (HM130.out.sub 3 rfl (rgC_e (hk16))) Try.underlying27 rfl (by kernel_rfl) rfl ?_
              dsimp only [eC]
              simp only [Act.put, List.setIfInBounds_toArray, List.set_cons_succ, List.set_cons_zero]
              refine wpS_storeA (i := 4) (L2 := [_, _, _, _, _, _, _]) (cs' := [_, _]) rfl (by rfl) rfl rfl rfl (by kernel_rfl) (by rfl) HM130.out 0 rfl rfl rfl rfl covS_nil rfl ?_
              rintro W132 hm131 -
              have HM133 := Lib.hid hm131
              clear hm131
              refine wpS_nil ?_
              refine then_normal ?_
              refine wp_seq ?_
              skip
              · have gw : (!decide (j.e k = y.e k)) = false := by rw [hwant.out]; exact ne_selfE _
                have gz : ((j.e k).2 != (y.e k).2) = false := by rw [hwant.out]; exact bne_self_eq_false _
                refine wp_region_M (fun k => k ∈ ([b104, b113] : List Nat)) [(0, 1), (1, 1), (2, 1), (3, 1), (4, 1), (5, 1), (6, 1), (7, 1), (8, 1), (10, 0), (11, 2), (9, 3), (12, 1), (13, 1)] (by kernel_rfl) (by kernel_rfl) HM133.out ?_
                intro W134 hm135
                have HM136 := Lib.hid hm135
                clear hm135
                refine wpS_this [0, 1] rfl (by kernel_rfl) (by simp only [pickL, nthL, List.cons_append, List.nil_append]; rfl) ?_
                repeat (go_big_quiet_step (fail))
                refine wpQuiet_nil ?_
                refine wpS_read (i := 2) (d := some 169) rfl (by rfl) (run_addrEnt (hk16) rfl rfl rfl) rfl ?_
                simp only [Act.put, List.setIfInBounds_toArray, List.set_cons_succ, List.set_cons_zero]
                refine wpS_loadA (i := 3) (d := some 170) (cells := eC _) rfl (by rfl) rfl rfl (HM136.out.sub 1 rfl (rgC_e (hk16))) Try.underlying27 rfl (by kernel_rfl) rfl ?_
                dsimp only [eC]
                simp only [Act.put, List.setIfInBounds_toArray, List.set_cons_succ, List.set_cons_zero]
                have Cb19 := Mem.cell HM136.out 0 rfl
                refine wpS_this [4] rfl (by kernel_rfl) (by simp only [pickL, nthL, List.cons_append, List.nil_append]; rfl) ?_
                repeat (go_big_quiet_step (fail))
                refine wpQuiet_nil ?_
                clear Cb19
                refine wpS_read (i := 5) (d := some 172) rfl (by rfl) (run_neEb (p := (j.e k)) (q := (y.e k)) gw rfl rfl rfl) rfl ?_
                simp only [Act.put, List.setIfInBounds_toArray, List.set_cons_succ, List.set_cons_zero]
                refine wpS_this [6] rfl (by kernel_rfl) (by simp only [pickL, nthL, List.cons_append, List.nil_append]; rfl) ?_
                repeat (go_big_quiet_step (fail))
                refine wpQuiet_nil ?_
                refine wpS_loadA (i := 7) (d := some 174) (cells := rgC (j) (.slice pj 0 cj)) rfl (by rfl) rfl rfl (HM136.out.sub 1 rfl (fun k u h => by rw [Nat.zero_add]; exact h)) Try.underlying30 rfl (by kernel_rfl) rfl ?_
                simp only [Act.put, List.setIfInBounds_toArray, List.set_cons_succ, List.set_cons_zero]
                refine wpS_this [8] rfl (by kernel_rfl) (by simp only [pickL, nthL, List.cons_append, List.nil_append]; rfl) ?_
                repeat (go_big_quiet_step (fail))
                refine wpQuiet_nil ?_
                refine wpS_all [10] rfl (by kernel_rfl) (by simp only [pickL, nthL, List.cons_append, List.nil_append]; rfl) ?_
                repeat (go_big_quiet_step (fail))
                refine wpQuiet_nil ?_
                have Cb19 := Mem.cell HM136.out 0 rfl
                refine wpS_stay [11] rfl (by kernel_rfl) (by simp only [pickL, nthL, List.cons_append, List.nil_append]; rfl) ?_
                repeat (go_big_quiet_step (fail))
                refine wpQuiet_nil ?_
                clear Cb19
                refine wpS_does2 (i := 9) (d := some 176) (rem := [_, _, _, _, _, _, _]) (out := [_, _, _, _, _, _, _, _]) rfl (by rfl) rfl Try.call17 (gowner_d (rowT elemI _ _) _ j rowT_reads lj k) rfl rfl HM136.out [2] rfl (covS_box 1 rfl (covS_box 0 rfl covS_nil)) rfl rfl ?_
                rintro W138 hm137 hg139
                rw [hown.out k hk16]
                have HM140 := Lib.hid hm137
                clear hm137
                simp only [Act.put, List.setIfInBounds_toArray, List.set_cons_succ, List.set_cons_zero]
                refine wpS_this [12, 13] rfl (by kernel_rfl) (by simp only [pickL, nthL, List.cons_append, List.nil_append]; rfl) ?_
                repeat (go_big_quiet_step (fail))
                refine wpQuiet_nil ?_
                refine wpS_nil ?_
                refine then_normal ?_
                refine wp_cond_false rfl ?_
                refine wp_skip ?_
                refine block_normal ?_
                refine then_normal ?_
                refine wp_region_N [(0, 1), (1, 1)] (by kernel_rfl) ?_
                refine wpS_this [0, 1] rfl (by kernel_rfl) (by simp only [pickL, nthL, List.cons_append, List.nil_append]; rfl) ?_
                repeat (go_big_quiet_step (fail))
                refine wpQuiet_nil ?_
                refine wpS_nil ?_
                refine then_normal ?_
                refine ⟨by kernel_rfl, ?_⟩
                refine ⟨16 - (k + 1), by omega, k + 1, rfl, rfl, hk1, trivial, (Mem.only (M := [_, _, _, _, _, _, _]) HM140.out [2, 0, 1, 1, 1, 1, 1] rfl)⟩
          · clear h110
            refine wp_exit ?_
            refine then_exit (then_exit (block_exit ?_))
            refine then_normal ?_
            refine wp_seq ?_
            refine wp_region_N [(0, 1), (1, 1), (2, 3), (3, 1), (4, 1), (5, 3), (6, 1), (7, 1), (8, 3), (9, 1), (10, 1)] (by kernel_rfl) ?_
            refine wpS_loadA (i := 0) (d := some 182) (cells := rgC (r) (.slice px 0 cx)) rfl (by rfl) rfl rfl (HM109.out.sub 4 rfl (fun k u h => by rw [Nat.zero_add]; exact h)) Try.underlying30 rfl (by kernel_rfl) rfl ?_
            simp only [Act.put, List.setIfInBounds_toArray, List.set_cons_succ, List.set_cons_zero]
            refine wpS_loadA (i := 1) (d := some 183) (cells := rgC (j) (.slice pj 0 cj)) rfl (by rfl) rfl rfl (HM109.out.sub 0 rfl (fun k u h => by rw [Nat.zero_add]; exact h)) Try.underlying30 rfl (by kernel_rfl) rfl ?_
            simp only [Act.put, List.setIfInBounds_toArray, List.set_cons_succ, List.set_cons_zero]
            refine wpS_does2 (i := 2) (d := some 184) (rem := [_, _, _, _, _]) (out := [_, _, _, _, _, _, _]) rfl (by rfl) rfl Try.call12 (Does.ofList (gbelow_d (listT [_, _]) (.slice px 0 cx) r (srcL 0 rfl (A := rowT elemI (.slice px 0 cx) ([] : List Int)) (by rw [hrp.out]; exact rowT_reads)) (by rw [hrp.out]; decide) _ j (srcL 1 rfl rowT_reads) lj)) rfl rfl HM109.out [5, 1] rfl covS_nil rfl rfl ?_
            rintro W142 hm141 -
            rw [hbel.out]
            have HM143 := Lib.hid hm141
            clear hm141
            simp only [Act.put, List.setIfInBounds_toArray, List.set_cons_succ, List.set_cons_zero]
            refine wpS_this [3] rfl (by kernel_rfl) (by simp only [pickL, nthL, List.cons_append, List.nil_append]; rfl) ?_
            repeat (go_big_quiet_step (fail))
            refine wpQuiet_nil ?_
            refine wpS_loadA (i := 4) (d := some 186) (cells := rgC (j) (.slice pj 0 cj)) rfl (by rfl) rfl rfl (HM143.out.sub 2 rfl (fun k u h => by rw [Nat.zero_add]; exact h)) Try.underlying30 rfl (by kernel_rfl) rfl ?_
            simp only [Act.put, List.setIfInBounds_toArray, List.set_cons_succ, List.set_cons_zero]
            refine wpS_does1 (i := 5) (d := some 187) (rem := [_, _, _, _, _, _]) (out := [_, _, _, _, _, _, _]) rfl (by rfl) rfl Try.call18 (rmayR_d (rowT elemI _ _) _ j rowT_reads lj ) rfl HM143.out [1] rfl covS_nil rfl rfl ?_
            rintro W145 hm144 -
            rw [hmj.out]
            have HM146 := Lib.hid hm144
            clear hm144
            simp only [Act.put, List.setIfInBounds_toArray, List.set_cons_succ, List.set_cons_zero]
            refine wpS_this [6, 7] rfl (by kernel_rfl) (by simp only [pickL, nthL, List.cons_append, List.nil_append]; rfl) ?_
            repeat (go_big_quiet_step (fail))
            refine wpQuiet_nil ?_
            refine wpS_does0 (i := 8) (d := some 190) (rem := [_, _, _, _, _, _, _]) (out := [_, _, _, _, _, _, _]) rfl (by rfl) rfl Try.call9 (gawake_d)  HM146.out [] rfl covS_nil rfl rfl ?_
            rintro W148 hm147 -
            have HM149 := Lib.hid hm147
            clear hm147
            simp only [Act.put, List.setIfInBounds_toArray, List.set_cons_succ, List.set_cons_zero]
            refine wpS_this [9, 10] rfl (by kernel_rfl) (by simp only [pickL, nthL, List.cons_append, List.nil_append]; rfl) ?_
            repeat (go_big_quiet_step (fail))
            refine wpQuiet_nil ?_
            refine wpS_nil ?_
            refine then_normal ?_
            refine wp_ret ?_
            refine bodyPost_ret (results_tmp rfl _ _ _) rfl ?_
            exact does_ret (Mem.only (M := [_]) HM149.out [6] rfl) rfl rfl

end Go.Proofs.Ytihhopoplcelfaa
