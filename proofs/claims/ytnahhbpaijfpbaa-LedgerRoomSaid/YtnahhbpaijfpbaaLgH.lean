/- Ledgers: the laws' helpers. -/
import Derived.Test.YtnahhbpaijfpbaaLgV
import Derived.Test.YtnahhbpaijfpbaaBgE
import Derived.Test.YtnahhbpaijfpbaaRgE
namespace Go.Proofs.Ytnahhbpaijfpbaa
open Go Go.RowKit Go.BigFrame

def wtX (x : Dx) : Int := heavyV x.d.b.v + hvy 0 [⟨x.d.r, x.rp, x.rn, x.rc⟩]
def badX (x : Dx) : Bool := decide (200 < x.d.key.size) || decide (0 < wtX x)
theorem heavyV_two (l : List Vl) : heavyV l = 0 ∨ heavyV l = 1 := by
  unfold heavyV
  split
  · exact .inr rfl
  · exact .inl rfl
theorem hvy_two (x : Hc) : hvy 0 [x] = 0 ∨ hvy 0 [x] = 1 := by
  by_cases h : x.n ≤ 100
  · exact .inl (by simp [hvy, h])
  · exact .inr (by simp [hvy, h])
theorem heavyV_01 (l : List Vl) : 0 ≤ heavyV l ∧ heavyV l ≤ 1 := by
  rcases heavyV_two l with h | h <;> rw [h] <;> decide
theorem hvy_01 (x : Hc) : 0 ≤ hvy 0 [x] ∧ hvy 0 [x] ≤ 1 := by
  rcases hvy_two x with h | h <;> rw [h] <;> decide
theorem wtX_range (x : Dx) : 0 ≤ wtX x ∧ wtX x ≤ 2 := by
  unfold wtX
  rcases heavyV_two x.d.b.v with h | h <;> rcases hvy_two ⟨x.d.r, x.rp, x.rn, x.rc⟩ with q | q <;> rw [h, q] <;> decide
theorem good_rn {x : Dx} (h : badX x = false) : x.rn ≤ 100 ∧ x.d.key.size ≤ 200 := by
  unfold badX at h
  rw [Bool.or_eq_false_iff, decide_eq_false_iff_not, decide_eq_false_iff_not] at h
  refine ⟨?_, by omega⟩
  rcases hvy1 ⟨x.d.r, x.rp, x.rn, x.rc⟩ with ⟨q, _⟩ | ⟨_, q⟩
  · exact q
  · exfalso
    refine h.2 ?_
    unfold wtX
    rcases heavyV_two x.d.b.v with p | p <;> omega
def hvyX : Nat → List Dx → Int
  | _, [] => 0
  | i, x :: l => if 80 ≤ i ∨ badX x = true then (i : Int) + 1 else hvyX (i + 1) l
theorem hvyX_end {l : List Dx} {k : Nat} (h : l.length ≤ k) : hvyX k (l.drop k) = 0 := by
  rw [List.drop_eq_nil_of_le h]
  rfl
theorem hvyX_step {l : List Dx} {k : Nat} {y : Dx} (h : l[k]? = some y) (hy : ¬ (80 ≤ k ∨ badX y = true)) : hvyX k (l.drop k) = hvyX (k + 1) (l.drop (k + 1)) := by
  have h1 := (List.getElem?_eq_some_iff.1 h).1
  have h2 := (List.getElem?_eq_some_iff.1 h).2
  rw [List.drop_eq_getElem_cons h1, h2]
  exact if_neg hy
theorem hvyX_stop {l : List Dx} {k : Nat} {y : Dx} (h : l[k]? = some y) (hy : 80 ≤ k ∨ badX y = true) : hvyX k (l.drop k) = (k : Int) + 1 := by
  have h1 := (List.getElem?_eq_some_iff.1 h).1
  have h2 := (List.getElem?_eq_some_iff.1 h).2
  rw [List.drop_eq_getElem_cons h1, h2]
  exact if_pos hy
theorem hvyX_one (x : Dx) : hvyX 0 [x] = if badX x = true then 1 else 0 := by
  show (if 80 ≤ 0 ∨ badX x = true then ((0 : Nat) : Int) + 1 else 0) = _
  by_cases h : badX x = true
  · rw [if_pos (.inr h), if_pos h]
    rfl
  · rw [if_neg (by simp [h]), if_neg h]
theorem vRowE {α : Type} {E : Elem Try.prog α} {v : Value} {xs : List α} {l : List At} (i : Nat) {A : At} (hi : l[i]? = some A) (hA : Reads E A v xs) : ∀ W H, (listT l).p W H → RowAt E W v xs := fun W H h => rowAt_src (vL i hi hA W H h)
/-- R reads the rows of a deed, as long as they are. -/
structure DxL (R : At) (x : Dx) : Prop where
  v : Reads elemV R x.sv x.d.b.v
  lv : x.d.b.v.length ≤ 4398046510976
  r : Reads elemI R x.sr x.d.r.p.2.2
theorem DxL.vn {R : At} {x : Dx} (h : DxL R x) {W : World} {H : Nat → Prop} (hp : R.p W H) : x.vn = x.d.b.v.length := by
  obtain ⟨_, p, c, e, _⟩ := h.v W H hp
  exact (Value.slice.inj e).2.1
set_option maxHeartbeats 4000000 in
set_option maxRecDepth 100000 in
theorem heavyD_d (R : At) (v : Value) (l : List Dx) (hR : ∀ W H, R.p W H → RowAt elemDx W v l) (hl : ∀ y ∈ l, DxL R y) : Does Try.prog 29 #[v] [R] (.int .i64 (hvyX 0 l)) [R] := by
  intro w H hp
  have HM0 := Lib.hid (mem_refl hp)
  clear hp
  obtain ⟨p, cap, rfl, -⟩ := (HM0.out.row 0 rfl hR).form
  go_enter Try.func29, Try.ntmps29
  refine wp_seq ?_
  refine wp_region_N [(0, 1)] (by kernel_rfl) ?_
  refine wpS_this [0] rfl (by kernel_rfl) (by simp only [pickL, nthL, List.cons_append, List.nil_append]; rfl) ?_
  repeat (go_big_quiet_step (fail))
  refine wpQuiet_nil ?_
  refine wpS_nil ?_
  refine then_normal ?_
  refine wp_seq ?_
  refine wp_seq ?_
  refine wp_region_N [(0, 1), (1, 1), (2, 1)] (by kernel_rfl) ?_
  refine wpS_this [0, 1, 2] rfl (by kernel_rfl) (by simp only [pickL, nthL, List.cons_append, List.nil_append]; rfl) ?_
  repeat (go_big_quiet_step (fail))
  refine wpQuiet_nil ?_
  refine wpS_nil ?_
  refine then_normal ?_
  refine wp_block ?_
  refine wp_loop_F [2, 3, 4, 7, 8, 9, 10, 11, 12, 13, 14, 15, 16, 17, 18, 19, 20, 21, 22, 23, 24, 25, 26, 27, 28, 29, 30, 31, 32, 33, 34] (fun n vs W' => ∃ k : Nat, n = l.length - k ∧ vs 7 = .int .i64 (k : Int) ∧ k ≤ l.length ∧ (hvyX k (l.drop k) = hvyX 0 l ∧ k ≤ 80) ∧ Mem [R] H w W') (n0 := l.length) ?_ ?_
  · exact ⟨0, rfl, rfl, Nat.zero_le _, ⟨rfl, Nat.zero_le _⟩, (Mem.only (M := [_]) HM0.out [0] rfl)⟩
  rintro n vs W' ⟨k, rfl, e7, hk, hf, hm⟩
  simp only [putAll, List.map_cons, List.map_nil, Act.put, List.setIfInBounds_toArray, List.set_cons_succ, List.set_cons_zero]
  rw [e7]
  clear e7
  have hf := Lib.hid hf
  have hk80 := hf.out.2
  have HM1 := Lib.hid hm
  clear hm
  refine wp_seq ?_
  refine wp_region_N [(0, 1)] (by kernel_rfl) ?_
  refine wpS_this [0] rfl (by kernel_rfl) (by simp only [pickL, nthL, List.cons_append, List.nil_append]; rfl) ?_
  repeat (go_big_quiet_step (fail))
  refine wpQuiet_nil ?_
  refine wpS_nil ?_
  refine then_normal ?_
  refine wp_seq ?_
  refine wp_cond_split rfl (fun h2 => ?_) (fun h2 => ?_)
  · have hk1 : k + 1 ≤ l.length := by have : (k : Int) < ((l.length : Nat) : Int) := (by simpa using h2); omega
    clear h2
    obtain ⟨y, hy'⟩ : ∃ y, l[k]? = some y := ⟨_, List.getElem?_eq_getElem (hk1)⟩
    have hy := Lib.hid hy'
    clear hy'
    have hyl := Lib.hid (hl y (List.mem_of_getElem? hy.out))
    have hvn : Hid (y.vn = y.d.b.v.length) := Lib.hid (by obtain ⟨_, p, c, e, _⟩ := Mem.src HM1.out 0 rfl hyl.out.v; exact (Value.slice.inj e).2.1)
    refine wp_skip ?_
    refine then_normal ?_
    refine wp_seq ?_
    refine wp_block ?_
    refine wp_seq ?_
    refine wp_region_N [(0, 1), (1, 1), (2, 1), (3, 3), (4, 1), (5, 3)] (by kernel_rfl) ?_
    refine wpS_this [0] rfl (by kernel_rfl) (by simp only [pickL, nthL, List.cons_append, List.nil_append]; rfl) ?_
    repeat (go_big_quiet_step (fail))
    refine wpQuiet_nil ?_
    refine wpS_index (E := elemDx) (i := 1) (d := some 10) rfl (by rfl) rfl rfl rfl (HM1.out.row 0 rfl hR) (hy.out) rfl ?_
    intro eb3 eo4 hc5
    simp only [Act.put, List.setIfInBounds_toArray, List.set_cons_succ, List.set_cons_zero]
    refine wpS_loadA (i := 2) (d := some 11) (cells := Dx.enc y) rfl (by rfl) rfl rfl hc5 Try.underlying43 rfl (by kernel_rfl) rfl ?_
    simp only [Act.put, List.setIfInBounds_toArray, List.set_cons_succ, List.set_cons_zero]
    refine wpS_alloc (i := 3) (dd := 4) (z := ddV noD (.slice none 0 0) (.slice none 0 0)) (cs := (ddC noD (.slice none 0 0) (.slice none 0 0)).toArray) rfl (by rfl) rfl (by kernel_rfl) rfl HM1.out covS_nil rfl ?_
    rintro b8 W7 hm6 -
    have HM9 := Lib.hid hm6
    clear hm6
    simp only [Act.put, List.setIfInBounds_toArray, List.set_cons_succ, List.set_cons_zero]
    refine wpS_this [4] rfl (by kernel_rfl) (by simp only [pickL, nthL, List.cons_append, List.nil_append]; rfl) ?_
    repeat (go_big_quiet_step (fail))
    refine wpQuiet_nil ?_
    refine wpS_storeA (i := 5) (L2 := [_]) (cs' := ddC (y.d) (.slice y.vp y.vn y.vc) (.slice y.rp y.rn y.rc)) rfl (by rfl) rfl rfl rfl (by kernel_rfl) (ddC_one _ _ _ _ _ _) HM9.out 0 rfl rfl (by kernel_rfl) (by kernel_rfl) covS_nil rfl ?_
    rintro W11 hm10 -
    have HM12 := Lib.hid hm10
    clear hm10
    refine wpS_nil ?_
    refine then_normal ?_
    refine wp_seq ?_
    rcases (show 80 ≤ k ∨ (¬ 80 ≤ k ∧ 200 < y.d.key.size) ∨ (¬ 80 ≤ k ∧ ¬ 200 < y.d.key.size ∧ 0 < wtX y) ∨ (¬ 80 ≤ k ∧ ¬ 200 < y.d.key.size ∧ ¬ 0 < wtX y) from by omega) with h1 | ⟨h1, h2⟩ | ⟨h1, h2, h3⟩ | ⟨h1, h2, h3⟩
    · have g6 : decide ((80 : Int) ≤ (k : Int)) = true := decide_eq_true (by omega)
      have g6' : decide (80 ≤ k) = true := decide_eq_true h1
      have hst : Hid (hvyX 0 l = (k : Int) + 1) := Lib.hid (by rw [← hf.out.1]; exact hvyX_stop hy.out (.inl h1))
      replace h1 := Lib.hid h1
      refine wp_cut_F [12, 13, 14, 15, 16, 17, 18, 19, 20, 21, 22, 23, 24, 25, 26, 27, 28, 29, 30, 31] (fun vs W' => vs 31 = .bool true ∧ Mem [boxT b8 (.cells (ddC y.d (.slice y.vp y.vn y.vc) (.slice y.rp y.rn y.rc)).toArray 43 (0, 0)), R] H w W') ?_ ?_
      · refine wp_region_taken [] (fun k => k ∈ ([b8] : List Nat)) (by kernel_rfl) rfl rfl ?_
        have hm13 := HM12.out.drew
        have HM14 := Lib.hid hm13
        clear hm13
        refine wpT_takeS (i := 0) (by kernel_rfl) (by kernel_rfl) ?_
        refine wpS_stay [0] rfl (by kernel_rfl) (by simp only [pickL, nthL, List.cons_append, List.nil_append]; rfl) ?_
        repeat (go_big_quiet_step (fail))
        refine wpQuiet_nil ?_
        refine wpS_nil ?_
        refine wpT_takeS (i := 1) (by kernel_rfl) (by kernel_rfl) ?_
        refine wpS_stay [1] rfl (by kernel_rfl) (by simp only [pickL, nthL, List.cons_append, List.nil_append]; rfl) ?_
        repeat (go_big_quiet_step (fail))
        refine wpQuiet_nil ?_
        refine wpS_nil ?_
        refine wpT_takeS (i := 2) (by kernel_rfl) (by kernel_rfl) ?_
        refine wpS_stay [2] rfl (by kernel_rfl) (by simp only [pickL, nthL, List.cons_append, List.nil_append]; rfl) ?_
        repeat (go_big_quiet_step (fail))
        refine wpQuiet_nil ?_
        refine wpS_nil ?_
        refine wpT_takeS (i := 3) (by kernel_rfl) (by kernel_rfl) ?_
        refine wpS_stay [3] rfl (by kernel_rfl) (by simp only [pickL, nthL, List.cons_append, List.nil_append]; rfl) ?_
        repeat (go_big_quiet_step (fail))
        refine wpQuiet_nil ?_
        refine wpS_nil ?_
        refine wpT_takeS (i := 4) (by kernel_rfl) (by kernel_rfl) ?_
        refine wpS_skip (i := 4) (d := some 16) rfl (by rfl) rfl ?_
        simp only [Act.put, List.setIfInBounds_toArray, List.set_cons_succ, List.set_cons_zero]
        refine wpS_nil ?_
        refine wpT_takeS (i := 5) (by kernel_rfl) (by kernel_rfl) ?_
        refine wpS_stay [5] rfl (by kernel_rfl) (by simp only [pickL, nthL, List.cons_append, List.nil_append]; rfl) ?_
        repeat (go_big_quiet_step (fail))
        refine wpQuiet_nil ?_
        refine wpS_nil ?_
        refine wpT_takeS (i := 6) (by kernel_rfl) (by kernel_rfl) ?_
        refine wpS_stay [6] rfl (by kernel_rfl) (by simp only [pickL, nthL, List.cons_append, List.nil_append]; rfl) ?_
        repeat (go_big_quiet_step (fail))
        refine wpQuiet_nil ?_
        refine wpS_nil ?_
        refine wpT_takeS (i := 7) (by kernel_rfl) (by kernel_rfl) ?_
        refine wpS_stay [7] rfl (by kernel_rfl) (by simp only [pickL, nthL, List.cons_append, List.nil_append]; rfl) ?_
        repeat (go_big_quiet_step (fail))
        refine wpQuiet_nil ?_
        refine wpS_nil ?_
        refine wpT_takeS (i := 8) (by kernel_rfl) (by kernel_rfl) ?_
        refine wpS_stay [8] rfl (by kernel_rfl) (by simp only [pickL, nthL, List.cons_append, List.nil_append]; rfl) ?_
        repeat (go_big_quiet_step (fail))
        refine wpQuiet_nil ?_
        refine wpS_nil ?_
        refine wpT_takeS (i := 9) (by kernel_rfl) (by kernel_rfl) ?_
        refine wpS_stay [9] rfl (by kernel_rfl) (by simp only [pickL, nthL, List.cons_append, List.nil_append]; rfl) ?_
        repeat (go_big_quiet_step (fail))
        refine wpQuiet_nil ?_
        refine wpS_nil ?_
        refine wpT_takeS (i := 10) (by kernel_rfl) (by kernel_rfl) ?_
        refine wpS_skip (i := 10) (d := some 22) rfl (by rfl) rfl ?_
        simp only [Act.put, List.setIfInBounds_toArray, List.set_cons_succ, List.set_cons_zero]
        refine wpS_nil ?_
        refine wpT_takeS (i := 13) (by kernel_rfl) (by kernel_rfl) ?_
        refine wpS_stay [13] rfl (by kernel_rfl) (by simp only [pickL, nthL, List.cons_append, List.nil_append]; rfl) ?_
        repeat (go_big_quiet_step (fail))
        refine wpQuiet_nil ?_
        refine wpS_nil ?_
        refine wpT_takeS (i := 14) (by kernel_rfl) (by kernel_rfl) ?_
        refine wpS_skip (i := 14) (d := some 26) rfl (by rfl) rfl ?_
        simp only [Act.put, List.setIfInBounds_toArray, List.set_cons_succ, List.set_cons_zero]
        refine wpS_nil ?_
        refine wpT_ready 11 [15] (by kernel_rfl) (allT_cons ?_ (allT_cons ?_ allT_nil))
        · refine opT_S (by kernel_rfl) ?_
          refine wpS_skip (i := 11) (d := some 23) rfl (by rfl) rfl ?_
          simp only [Act.put, List.setIfInBounds_toArray, List.set_cons_succ, List.set_cons_zero]
          refine wpS_nil ?_
          refine wpT_ready 12 [15] (by kernel_rfl) (allT_cons ?_ (allT_cons ?_ allT_nil))
          · refine opT_S (by kernel_rfl) ?_
            refine wpS_skip (i := 12) (d := some 24) rfl (by rfl) rfl ?_
            simp only [Act.put, List.setIfInBounds_toArray, List.set_cons_succ, List.set_cons_zero]
            refine wpS_nil ?_
            refine wpT_ready 15 [] (by kernel_rfl) (allT_cons ?_ allT_nil)
            refine opT_S (by kernel_rfl) ?_
            refine wpS_skip (i := 15) (d := some 27) rfl (by rfl) rfl ?_
            simp only [Act.put, List.setIfInBounds_toArray, List.set_cons_succ, List.set_cons_zero]
            refine wpS_nil ?_
            refine wpT_ready 16 [] (by kernel_rfl) (allT_cons ?_ allT_nil)
            refine opT_S (by kernel_rfl) ?_
            refine wpS_skip (i := 16) (d := some 28) rfl (by rfl) rfl ?_
            simp only [Act.put, List.setIfInBounds_toArray, List.set_cons_succ, List.set_cons_zero]
            refine wpS_nil ?_
            refine wpT_takeS (i := 17) (by kernel_rfl) (by kernel_rfl) ?_
            refine wpS_stay [17] rfl (by kernel_rfl) (by simp only [pickL, nthL, List.cons_append, List.nil_append]; rfl) ?_
            repeat (go_big_quiet_step (fail))
            refine wpQuiet_nil ?_
            refine wpS_nil ?_
            refine wpT_takeS (i := 18) (by kernel_rfl) (by kernel_rfl) ?_
            refine wpS_stay [18] rfl (by kernel_rfl) (by simp only [pickL, nthL, List.cons_append, List.nil_append]; rfl) ?_
            repeat (go_big_quiet_step (fail))
            refine wpQuiet_nil ?_
            refine wpS_nil ?_
            refine wpT_takeS (i := 19) (by kernel_rfl) (by kernel_rfl) ?_
            refine wpS_stay [19] rfl (by kernel_rfl) (by simp only [pickL, nthL, List.cons_append, List.nil_append]; rfl) ?_
            repeat (go_big_quiet_step (fail))
            refine wpQuiet_nil ?_
            refine wpS_nil ?_
            refine wpT_end (by kernel_rfl) ?_
            refine then_normal ?_
            refine ⟨by kernel_rfl, ?_⟩
            exact ⟨rfl, (Mem.only (M := [_, _]) HM14.out [0, 0] rfl)⟩
          · refine opT_S (by kernel_rfl) ?_
            refine wpS_skip (i := 15) (d := some 27) rfl (by rfl) rfl ?_
            simp only [Act.put, List.setIfInBounds_toArray, List.set_cons_succ, List.set_cons_zero]
            refine wpS_nil ?_
            refine wpT_ready 12 [] (by kernel_rfl) (allT_cons ?_ allT_nil)
            refine opT_S (by kernel_rfl) ?_
            refine wpS_skip (i := 12) (d := some 24) rfl (by rfl) rfl ?_
            simp only [Act.put, List.setIfInBounds_toArray, List.set_cons_succ, List.set_cons_zero]
            refine wpS_nil ?_
            refine wpT_ready 16 [] (by kernel_rfl) (allT_cons ?_ allT_nil)
            refine opT_S (by kernel_rfl) ?_
            refine wpS_skip (i := 16) (d := some 28) rfl (by rfl) rfl ?_
            simp only [Act.put, List.setIfInBounds_toArray, List.set_cons_succ, List.set_cons_zero]
            refine wpS_nil ?_
            refine wpT_takeS (i := 17) (by kernel_rfl) (by kernel_rfl) ?_
            refine wpS_stay [17] rfl (by kernel_rfl) (by simp only [pickL, nthL, List.cons_append, List.nil_append]; rfl) ?_
            repeat (go_big_quiet_step (fail))
            refine wpQuiet_nil ?_
            refine wpS_nil ?_
            refine wpT_takeS (i := 18) (by kernel_rfl) (by kernel_rfl) ?_
            refine wpS_stay [18] rfl (by kernel_rfl) (by simp only [pickL, nthL, List.cons_append, List.nil_append]; rfl) ?_
            repeat (go_big_quiet_step (fail))
            refine wpQuiet_nil ?_
            refine wpS_nil ?_
            refine wpT_takeS (i := 19) (by kernel_rfl) (by kernel_rfl) ?_
            refine wpS_stay [19] rfl (by kernel_rfl) (by simp only [pickL, nthL, List.cons_append, List.nil_append]; rfl) ?_
            repeat (go_big_quiet_step (fail))
            refine wpQuiet_nil ?_
            refine wpS_nil ?_
            refine wpT_end (by kernel_rfl) ?_
            refine then_normal ?_
            refine ⟨by kernel_rfl, ?_⟩
            exact ⟨rfl, (Mem.only (M := [_, _]) HM14.out [0, 0] rfl)⟩
        · refine opT_S (by kernel_rfl) ?_
          refine wpS_skip (i := 15) (d := some 27) rfl (by rfl) rfl ?_
          simp only [Act.put, List.setIfInBounds_toArray, List.set_cons_succ, List.set_cons_zero]
          refine wpS_nil ?_
          refine wpT_ready 11 [] (by kernel_rfl) (allT_cons ?_ allT_nil)
          refine opT_S (by kernel_rfl) ?_
          refine wpS_skip (i := 11) (d := some 23) rfl (by rfl) rfl ?_
          simp only [Act.put, List.setIfInBounds_toArray, List.set_cons_succ, List.set_cons_zero]
          refine wpS_nil ?_
          refine wpT_ready 12 [] (by kernel_rfl) (allT_cons ?_ allT_nil)
          refine opT_S (by kernel_rfl) ?_
          refine wpS_skip (i := 12) (d := some 24) rfl (by rfl) rfl ?_
          simp only [Act.put, List.setIfInBounds_toArray, List.set_cons_succ, List.set_cons_zero]
          refine wpS_nil ?_
          refine wpT_ready 16 [] (by kernel_rfl) (allT_cons ?_ allT_nil)
          refine opT_S (by kernel_rfl) ?_
          refine wpS_skip (i := 16) (d := some 28) rfl (by rfl) rfl ?_
          simp only [Act.put, List.setIfInBounds_toArray, List.set_cons_succ, List.set_cons_zero]
          refine wpS_nil ?_
          refine wpT_takeS (i := 17) (by kernel_rfl) (by kernel_rfl) ?_
          refine wpS_stay [17] rfl (by kernel_rfl) (by simp only [pickL, nthL, List.cons_append, List.nil_append]; rfl) ?_
          repeat (go_big_quiet_step (fail))
          refine wpQuiet_nil ?_
          refine wpS_nil ?_
          refine wpT_takeS (i := 18) (by kernel_rfl) (by kernel_rfl) ?_
          refine wpS_stay [18] rfl (by kernel_rfl) (by simp only [pickL, nthL, List.cons_append, List.nil_append]; rfl) ?_
          repeat (go_big_quiet_step (fail))
          refine wpQuiet_nil ?_
          refine wpS_nil ?_
          refine wpT_takeS (i := 19) (by kernel_rfl) (by kernel_rfl) ?_
          refine wpS_stay [19] rfl (by kernel_rfl) (by simp only [pickL, nthL, List.cons_append, List.nil_append]; rfl) ?_
          repeat (go_big_quiet_step (fail))
          refine wpQuiet_nil ?_
          refine wpS_nil ?_
          refine wpT_end (by kernel_rfl) ?_
          refine then_normal ?_
          refine ⟨by kernel_rfl, ?_⟩
          exact ⟨rfl, (Mem.only (M := [_, _]) HM14.out [0, 0] rfl)⟩
      rintro vs W' ⟨e31, hm⟩
      simp only [putAll, List.map_cons, List.map_nil, Act.put, List.setIfInBounds_toArray, List.set_cons_succ, List.set_cons_zero]
      rw [e31]
      clear e31
      have HM15 := Lib.hid hm
      clear hm
      refine then_normal ?_
      refine wp_cond_true rfl ?_
      refine wp_seq ?_
      refine wp_region_N [(0, 1), (1, 1), (2, 1)] (by kernel_rfl) ?_
      refine wpS_this [0, 1, 2] rfl (by kernel_rfl) (by simp only [pickL, nthL, List.cons_append, List.nil_append]; rfl) ?_
      repeat (go_big_quiet_step (fail))
      refine wpQuiet_nil ?_
      refine wpS_nil ?_
      refine then_normal ?_
      refine wp_ret ?_
      refine block_ret (then_ret (then_ret (block_ret (then_ret ?_))))
      refine bodyPost_ret (results_tmp rfl _ _ _) rfl ?_
      rw [hst.out]
      exact does_ret (Mem.only (M := [_]) HM15.out [1] rfl) rfl rfl
    · have g6 : decide ((80 : Int) ≤ (k : Int)) = false := decide_eq_false (by omega)
      have g6' : decide (80 ≤ k) = false := decide_eq_false h1
      have g7 : decide ((200 : Int) < (y.d.key.size : Int)) = true := decide_eq_true (by omega)
      have g7' : decide (200 < y.d.key.size) = true := decide_eq_true h2
      have hst : Hid (hvyX 0 l = (k : Int) + 1) := Lib.hid (by rw [← hf.out.1]; exact hvyX_stop hy.out (.inr (by unfold badX; rw [decide_eq_true h2]; rfl)))
      replace h1 := Lib.hid h1
      replace h2 := Lib.hid h2
      refine wp_cut_F [12, 13, 14, 15, 16, 17, 18, 19, 20, 21, 22, 23, 24, 25, 26, 27, 28, 29, 30, 31] (fun vs W' => vs 31 = .bool true ∧ Mem [boxT b8 (.cells (ddC y.d (.slice y.vp y.vn y.vc) (.slice y.rp y.rn y.rc)).toArray 43 (0, 0)), R] H w W') ?_ ?_
      · refine wp_region_taken [] (fun k => k ∈ ([b8] : List Nat)) (by kernel_rfl) rfl rfl ?_
        have hm16 := HM12.out.drew
        have HM17 := Lib.hid hm16
        clear hm16
        refine wpT_takeS (i := 0) (by kernel_rfl) (by kernel_rfl) ?_
        refine wpS_stay [0] rfl (by kernel_rfl) (by simp only [pickL, nthL, List.cons_append, List.nil_append]; rfl) ?_
        repeat (go_big_quiet_step (fail))
        refine wpQuiet_nil ?_
        refine wpS_nil ?_
        refine wpT_takeS (i := 1) (by kernel_rfl) (by kernel_rfl) ?_
        refine wpS_stay [1] rfl (by kernel_rfl) (by simp only [pickL, nthL, List.cons_append, List.nil_append]; rfl) ?_
        repeat (go_big_quiet_step (fail))
        refine wpQuiet_nil ?_
        refine wpS_nil ?_
        refine wpT_takeS (i := 2) (by kernel_rfl) (by kernel_rfl) ?_
        refine wpS_stay [2] rfl (by kernel_rfl) (by simp only [pickL, nthL, List.cons_append, List.nil_append]; rfl) ?_
        repeat (go_big_quiet_step (fail))
        refine wpQuiet_nil ?_
        refine wpS_nil ?_
        refine wpT_takeS (i := 3) (by kernel_rfl) (by kernel_rfl) ?_
        refine wpS_stay [3] rfl (by kernel_rfl) (by simp only [pickL, nthL, List.cons_append, List.nil_append]; rfl) ?_
        repeat (go_big_quiet_step (fail))
        refine wpQuiet_nil ?_
        refine wpS_nil ?_
        refine wpT_takeS (i := 4) (by kernel_rfl) (by kernel_rfl) ?_
        refine wpS_load12 (i := 4) (d := some 16) (u := .string (y.d).key) rfl (by rfl) rfl rfl (by simp) (HM17.out.part1 0 rfl rfl) Try.underlying9 rfl rfl ?_
        simp only [Act.put, List.setIfInBounds_toArray, List.set_cons_succ, List.set_cons_zero]
        refine wpS_nil ?_
        refine wpT_takeS (i := 5) (by kernel_rfl) (by kernel_rfl) ?_
        refine wpS_stay [5] rfl (by kernel_rfl) (by simp only [pickL, nthL, List.cons_append, List.nil_append]; rfl) ?_
        repeat (go_big_quiet_step (fail))
        refine wpQuiet_nil ?_
        refine wpS_nil ?_
        refine wpT_takeS (i := 6) (by kernel_rfl) (by kernel_rfl) ?_
        refine wpS_stay [6] rfl (by kernel_rfl) (by simp only [pickL, nthL, List.cons_append, List.nil_append]; rfl) ?_
        repeat (go_big_quiet_step (fail))
        refine wpQuiet_nil ?_
        refine wpS_nil ?_
        refine wpT_takeS (i := 7) (by kernel_rfl) (by kernel_rfl) ?_
        refine wpS_stay [7] rfl (by kernel_rfl) (by simp only [pickL, nthL, List.cons_append, List.nil_append]; rfl) ?_
        repeat (go_big_quiet_step (fail))
        refine wpQuiet_nil ?_
        refine wpS_nil ?_
        refine wpT_takeS (i := 8) (by kernel_rfl) (by kernel_rfl) ?_
        refine wpS_stay [8] rfl (by kernel_rfl) (by simp only [pickL, nthL, List.cons_append, List.nil_append]; rfl) ?_
        repeat (go_big_quiet_step (fail))
        refine wpQuiet_nil ?_
        refine wpS_nil ?_
        refine wpT_takeS (i := 9) (by kernel_rfl) (by kernel_rfl) ?_
        refine wpS_stay [9] rfl (by kernel_rfl) (by simp only [pickL, nthL, List.cons_append, List.nil_append]; rfl) ?_
        repeat (go_big_quiet_step (fail))
        refine wpQuiet_nil ?_
        refine wpS_nil ?_
        refine wpT_takeS (i := 10) (by kernel_rfl) (by kernel_rfl) ?_
        refine wpS_skip (i := 10) (d := some 22) rfl (by rfl) rfl ?_
        simp only [Act.put, List.setIfInBounds_toArray, List.set_cons_succ, List.set_cons_zero]
        refine wpS_nil ?_
        refine wpT_takeS (i := 13) (by kernel_rfl) (by kernel_rfl) ?_
        refine wpS_stay [13] rfl (by kernel_rfl) (by simp only [pickL, nthL, List.cons_append, List.nil_append]; rfl) ?_
        repeat (go_big_quiet_step (fail))
        refine wpQuiet_nil ?_
        refine wpS_nil ?_
        refine wpT_takeS (i := 14) (by kernel_rfl) (by kernel_rfl) ?_
        refine wpS_skip (i := 14) (d := some 26) rfl (by rfl) rfl ?_
        simp only [Act.put, List.setIfInBounds_toArray, List.set_cons_succ, List.set_cons_zero]
        refine wpS_nil ?_
        refine wpT_ready 11 [15] (by kernel_rfl) (allT_cons ?_ (allT_cons ?_ allT_nil))
        · refine opT_S (by kernel_rfl) ?_
          refine wpS_skip (i := 11) (d := some 23) rfl (by rfl) rfl ?_
          simp only [Act.put, List.setIfInBounds_toArray, List.set_cons_succ, List.set_cons_zero]
          refine wpS_nil ?_
          refine wpT_ready 12 [15] (by kernel_rfl) (allT_cons ?_ (allT_cons ?_ allT_nil))
          · refine opT_S (by kernel_rfl) ?_
            refine wpS_skip (i := 12) (d := some 24) rfl (by rfl) rfl ?_
            simp only [Act.put, List.setIfInBounds_toArray, List.set_cons_succ, List.set_cons_zero]
            refine wpS_nil ?_
            refine wpT_ready 15 [] (by kernel_rfl) (allT_cons ?_ allT_nil)
            refine opT_S (by kernel_rfl) ?_
            refine wpS_skip (i := 15) (d := some 27) rfl (by rfl) rfl ?_
            simp only [Act.put, List.setIfInBounds_toArray, List.set_cons_succ, List.set_cons_zero]
            refine wpS_nil ?_
            refine wpT_ready 16 [] (by kernel_rfl) (allT_cons ?_ allT_nil)
            refine opT_S (by kernel_rfl) ?_
            refine wpS_skip (i := 16) (d := some 28) rfl (by rfl) rfl ?_
            simp only [Act.put, List.setIfInBounds_toArray, List.set_cons_succ, List.set_cons_zero]
            refine wpS_nil ?_
            refine wpT_takeS (i := 17) (by kernel_rfl) (by kernel_rfl) ?_
            refine wpS_stay [17] rfl (by kernel_rfl) (by simp only [pickL, nthL, List.cons_append, List.nil_append]; rfl) ?_
            repeat (go_big_quiet_step (fail))
            refine wpQuiet_nil ?_
            refine wpS_nil ?_
            refine wpT_takeS (i := 18) (by kernel_rfl) (by kernel_rfl) ?_
            refine wpS_stay [18] rfl (by kernel_rfl) (by simp only [pickL, nthL, List.cons_append, List.nil_append]; rfl) ?_
            repeat (go_big_quiet_step (fail))
            refine wpQuiet_nil ?_
            refine wpS_nil ?_
            refine wpT_takeS (i := 19) (by kernel_rfl) (by kernel_rfl) ?_
            refine wpS_stay [19] rfl (by kernel_rfl) (by simp only [pickL, nthL, List.cons_append, List.nil_append]; rfl) ?_
            repeat (go_big_quiet_step (fail))
            refine wpQuiet_nil ?_
            refine wpS_nil ?_
            refine wpT_end (by kernel_rfl) ?_
            refine then_normal ?_
            refine ⟨by kernel_rfl, ?_⟩
            exact ⟨rfl, (Mem.only (M := [_, _]) HM17.out [0, 0] rfl)⟩
          · refine opT_S (by kernel_rfl) ?_
            refine wpS_skip (i := 15) (d := some 27) rfl (by rfl) rfl ?_
            simp only [Act.put, List.setIfInBounds_toArray, List.set_cons_succ, List.set_cons_zero]
            refine wpS_nil ?_
            refine wpT_ready 12 [] (by kernel_rfl) (allT_cons ?_ allT_nil)
            refine opT_S (by kernel_rfl) ?_
            refine wpS_skip (i := 12) (d := some 24) rfl (by rfl) rfl ?_
            simp only [Act.put, List.setIfInBounds_toArray, List.set_cons_succ, List.set_cons_zero]
            refine wpS_nil ?_
            refine wpT_ready 16 [] (by kernel_rfl) (allT_cons ?_ allT_nil)
            refine opT_S (by kernel_rfl) ?_
            refine wpS_skip (i := 16) (d := some 28) rfl (by rfl) rfl ?_
            simp only [Act.put, List.setIfInBounds_toArray, List.set_cons_succ, List.set_cons_zero]
            refine wpS_nil ?_
            refine wpT_takeS (i := 17) (by kernel_rfl) (by kernel_rfl) ?_
            refine wpS_stay [17] rfl (by kernel_rfl) (by simp only [pickL, nthL, List.cons_append, List.nil_append]; rfl) ?_
            repeat (go_big_quiet_step (fail))
            refine wpQuiet_nil ?_
            refine wpS_nil ?_
            refine wpT_takeS (i := 18) (by kernel_rfl) (by kernel_rfl) ?_
            refine wpS_stay [18] rfl (by kernel_rfl) (by simp only [pickL, nthL, List.cons_append, List.nil_append]; rfl) ?_
            repeat (go_big_quiet_step (fail))
            refine wpQuiet_nil ?_
            refine wpS_nil ?_
            refine wpT_takeS (i := 19) (by kernel_rfl) (by kernel_rfl) ?_
            refine wpS_stay [19] rfl (by kernel_rfl) (by simp only [pickL, nthL, List.cons_append, List.nil_append]; rfl) ?_
            repeat (go_big_quiet_step (fail))
            refine wpQuiet_nil ?_
            refine wpS_nil ?_
            refine wpT_end (by kernel_rfl) ?_
            refine then_normal ?_
            refine ⟨by kernel_rfl, ?_⟩
            exact ⟨rfl, (Mem.only (M := [_, _]) HM17.out [0, 0] rfl)⟩
        · refine opT_S (by kernel_rfl) ?_
          refine wpS_skip (i := 15) (d := some 27) rfl (by rfl) rfl ?_
          simp only [Act.put, List.setIfInBounds_toArray, List.set_cons_succ, List.set_cons_zero]
          refine wpS_nil ?_
          refine wpT_ready 11 [] (by kernel_rfl) (allT_cons ?_ allT_nil)
          refine opT_S (by kernel_rfl) ?_
          refine wpS_skip (i := 11) (d := some 23) rfl (by rfl) rfl ?_
          simp only [Act.put, List.setIfInBounds_toArray, List.set_cons_succ, List.set_cons_zero]
          refine wpS_nil ?_
          refine wpT_ready 12 [] (by kernel_rfl) (allT_cons ?_ allT_nil)
          refine opT_S (by kernel_rfl) ?_
          refine wpS_skip (i := 12) (d := some 24) rfl (by rfl) rfl ?_
          simp only [Act.put, List.setIfInBounds_toArray, List.set_cons_succ, List.set_cons_zero]
          refine wpS_nil ?_
          refine wpT_ready 16 [] (by kernel_rfl) (allT_cons ?_ allT_nil)
          refine opT_S (by kernel_rfl) ?_
          refine wpS_skip (i := 16) (d := some 28) rfl (by rfl) rfl ?_
          simp only [Act.put, List.setIfInBounds_toArray, List.set_cons_succ, List.set_cons_zero]
          refine wpS_nil ?_
          refine wpT_takeS (i := 17) (by kernel_rfl) (by kernel_rfl) ?_
          refine wpS_stay [17] rfl (by kernel_rfl) (by simp only [pickL, nthL, List.cons_append, List.nil_append]; rfl) ?_
          repeat (go_big_quiet_step (fail))
          refine wpQuiet_nil ?_
          refine wpS_nil ?_
          refine wpT_takeS (i := 18) (by kernel_rfl) (by kernel_rfl) ?_
          refine wpS_stay [18] rfl (by kernel_rfl) (by simp only [pickL, nthL, List.cons_append, List.nil_append]; rfl) ?_
          repeat (go_big_quiet_step (fail))
          refine wpQuiet_nil ?_
          refine wpS_nil ?_
          refine wpT_takeS (i := 19) (by kernel_rfl) (by kernel_rfl) ?_
          refine wpS_stay [19] rfl (by kernel_rfl) (by simp only [pickL, nthL, List.cons_append, List.nil_append]; rfl) ?_
          repeat (go_big_quiet_step (fail))
          refine wpQuiet_nil ?_
          refine wpS_nil ?_
          refine wpT_end (by kernel_rfl) ?_
          refine then_normal ?_
          refine ⟨by kernel_rfl, ?_⟩
          exact ⟨rfl, (Mem.only (M := [_, _]) HM17.out [0, 0] rfl)⟩
      rintro vs W' ⟨e31, hm⟩
      simp only [putAll, List.map_cons, List.map_nil, Act.put, List.setIfInBounds_toArray, List.set_cons_succ, List.set_cons_zero]
      rw [e31]
      clear e31
      have HM18 := Lib.hid hm
      clear hm
      refine then_normal ?_
      refine wp_cond_true rfl ?_
      refine wp_seq ?_
      refine wp_region_N [(0, 1), (1, 1), (2, 1)] (by kernel_rfl) ?_
      refine wpS_this [0, 1, 2] rfl (by kernel_rfl) (by simp only [pickL, nthL, List.cons_append, List.nil_append]; rfl) ?_
      repeat (go_big_quiet_step (fail))
      refine wpQuiet_nil ?_
      refine wpS_nil ?_
      refine then_normal ?_
      refine wp_ret ?_
      refine block_ret (then_ret (then_ret (block_ret (then_ret ?_))))
      refine bodyPost_ret (results_tmp rfl _ _ _) rfl ?_
      rw [hst.out]
      exact does_ret (Mem.only (M := [_]) HM18.out [1] rfl) rfl rfl
    · have g6 : decide ((80 : Int) ≤ (k : Int)) = false := decide_eq_false (by omega)
      have g6' : decide (80 ≤ k) = false := decide_eq_false h1
      have g7 : decide ((200 : Int) < (y.d.key.size : Int)) = false := decide_eq_false (by omega)
      have g7' : decide (200 < y.d.key.size) = false := decide_eq_false h2
      obtain ⟨m1, hm1'⟩ := int_letter (heavyV y.d.b.v)
      obtain ⟨m2, hm2'⟩ := int_letter (hvy 0 [(⟨y.d.r, y.rp, y.rn, y.rc⟩ : Hc)])
      have hwm : wtX y = m1 + m2 := by unfold wtX; rw [hm1', hm2']
      have hr1 : (0 ≤ m1 ∧ m1 ≤ 1) ∧ 0 ≤ m2 ∧ m2 ≤ 1 := by rw [← hm1', ← hm2']; exact ⟨heavyV_01 _, hvy_01 _⟩
      obtain ⟨⟨hr1, hr2⟩, hr3, hr4⟩ := hr1
      rw [hwm] at h3
      have g8 : decide (0 < m1 + m2) = true := decide_eq_true h3
      have hst : Hid (hvyX 0 l = (k : Int) + 1) := Lib.hid (by rw [← hf.out.1]; exact hvyX_stop hy.out (.inr (by unfold badX; rw [hwm, g8, Bool.or_true])))
      clear hwm
      have hm1 := Lib.hid hm1'
      clear hm1'
      have hm2 := Lib.hid hm2'
      clear hm2'
      replace h1 := Lib.hid h1
      replace h2 := Lib.hid h2
      replace h3 := Lib.hid h3
      refine wp_cut_F [12, 13, 14, 15, 16, 17, 18, 19, 20, 21, 22, 23, 24, 25, 26, 27, 28, 29, 30, 31] (fun vs W' => vs 31 = .bool true ∧ Mem [boxT b8 (.cells (ddC y.d (.slice y.vp y.vn y.vc) (.slice y.rp y.rn y.rc)).toArray 43 (0, 0)), R] H w W') ?_ ?_
      · refine wp_region_taken [] (fun k => k ∈ ([b8] : List Nat)) (by kernel_rfl) rfl rfl ?_
        have hm19 := HM12.out.drew
        have HM20 := Lib.hid hm19
        clear hm19
        refine wpT_takeS (i := 0) (by kernel_rfl) (by kernel_rfl) ?_
        refine wpS_stay [0] rfl (by kernel_rfl) (by simp only [pickL, nthL, List.cons_append, List.nil_append]; rfl) ?_
        repeat (go_big_quiet_step (fail))
        refine wpQuiet_nil ?_
        refine wpS_nil ?_
        refine wpT_takeS (i := 1) (by kernel_rfl) (by kernel_rfl) ?_
        refine wpS_stay [1] rfl (by kernel_rfl) (by simp only [pickL, nthL, List.cons_append, List.nil_append]; rfl) ?_
        repeat (go_big_quiet_step (fail))
        refine wpQuiet_nil ?_
        refine wpS_nil ?_
        refine wpT_takeS (i := 2) (by kernel_rfl) (by kernel_rfl) ?_
        refine wpS_stay [2] rfl (by kernel_rfl) (by simp only [pickL, nthL, List.cons_append, List.nil_append]; rfl) ?_
        repeat (go_big_quiet_step (fail))
        refine wpQuiet_nil ?_
        refine wpS_nil ?_
        refine wpT_takeS (i := 3) (by kernel_rfl) (by kernel_rfl) ?_
        refine wpS_stay [3] rfl (by kernel_rfl) (by simp only [pickL, nthL, List.cons_append, List.nil_append]; rfl) ?_
        repeat (go_big_quiet_step (fail))
        refine wpQuiet_nil ?_
        refine wpS_nil ?_
        refine wpT_takeS (i := 4) (by kernel_rfl) (by kernel_rfl) ?_
        refine wpS_load12 (i := 4) (d := some 16) (u := .string (y.d).key) rfl (by rfl) rfl rfl (by simp) (HM20.out.part1 0 rfl rfl) Try.underlying9 rfl rfl ?_
        simp only [Act.put, List.setIfInBounds_toArray, List.set_cons_succ, List.set_cons_zero]
        refine wpS_nil ?_
        refine wpT_takeS (i := 5) (by kernel_rfl) (by kernel_rfl) ?_
        refine wpS_stay [5] rfl (by kernel_rfl) (by simp only [pickL, nthL, List.cons_append, List.nil_append]; rfl) ?_
        repeat (go_big_quiet_step (fail))
        refine wpQuiet_nil ?_
        refine wpS_nil ?_
        refine wpT_takeS (i := 6) (by kernel_rfl) (by kernel_rfl) ?_
        refine wpS_stay [6] rfl (by kernel_rfl) (by simp only [pickL, nthL, List.cons_append, List.nil_append]; rfl) ?_
        repeat (go_big_quiet_step (fail))
        refine wpQuiet_nil ?_
        refine wpS_nil ?_
        refine wpT_takeS (i := 7) (by kernel_rfl) (by kernel_rfl) ?_
        refine wpS_stay [7] rfl (by kernel_rfl) (by simp only [pickL, nthL, List.cons_append, List.nil_append]; rfl) ?_
        repeat (go_big_quiet_step (fail))
        refine wpQuiet_nil ?_
        refine wpS_nil ?_
        refine wpT_takeS (i := 8) (by kernel_rfl) (by kernel_rfl) ?_
        refine wpS_stay [8] rfl (by kernel_rfl) (by simp only [pickL, nthL, List.cons_append, List.nil_append]; rfl) ?_
        repeat (go_big_quiet_step (fail))
        refine wpQuiet_nil ?_
        refine wpS_nil ?_
        refine wpT_takeS (i := 9) (by kernel_rfl) (by kernel_rfl) ?_
        refine wpS_stay [9] rfl (by kernel_rfl) (by simp only [pickL, nthL, List.cons_append, List.nil_append]; rfl) ?_
        repeat (go_big_quiet_step (fail))
        refine wpQuiet_nil ?_
        refine wpS_nil ?_
        refine wpT_takeS (i := 10) (by kernel_rfl) (by kernel_rfl) ?_
        refine wpS_loadA2 (i := 10) (d := some 22) (cells := bgC (y.d).b.k (.slice y.vp y.vn y.vc)) rfl (by rfl) rfl rfl (by simp) (HM20.out.part 0 rfl (ddC_bag)) Try.underlying33 rfl (by kernel_rfl) rfl ?_
        simp only [Act.put, List.setIfInBounds_toArray, List.set_cons_succ, List.set_cons_zero]
        refine wpS_nil ?_
        refine wpT_takeS (i := 13) (by kernel_rfl) (by kernel_rfl) ?_
        refine wpS_stay [13] rfl (by kernel_rfl) (by simp only [pickL, nthL, List.cons_append, List.nil_append]; rfl) ?_
        repeat (go_big_quiet_step (fail))
        refine wpQuiet_nil ?_
        refine wpS_nil ?_
        refine wpT_takeS (i := 14) (by kernel_rfl) (by kernel_rfl) ?_
        refine wpS_loadA2 (i := 14) (d := some 26) (cells := rgC (y.d).r (.slice y.rp y.rn y.rc)) rfl (by rfl) rfl rfl (by simp) (HM20.out.part 0 rfl (ddC_ring)) Try.underlying41 rfl (by kernel_rfl) rfl ?_
        simp only [Act.put, List.setIfInBounds_toArray, List.set_cons_succ, List.set_cons_zero]
        refine wpS_nil ?_
        refine wpT_ready 11 [15] (by kernel_rfl) (allT_cons ?_ (allT_cons ?_ allT_nil))
        · refine opT_S (by kernel_rfl) ?_
          refine wpS_buildN elemB (i := 11) (dd := 23) (n := 1) (xs := [⟨y.d.b.k, y.vp, y.vn, y.vc⟩]) (cs := (bgC y.d.b.k (.slice y.vp y.vn y.vc) ++ []).toArray) rfl (by rfl) (fun _ => by kernel_rfl) rfl rfl HM20.out (covS_box 0 rfl covS_nil) rfl ?_
          rintro b24 W25 hm26 hg27
          have HM28 := Lib.hid hm26
          clear hm26
          simp only [Act.put, List.setIfInBounds_toArray, List.set_cons_succ, List.set_cons_zero]
          refine wpS_nil ?_
          refine wpT_ready 12 [15] (by kernel_rfl) (allT_cons ?_ (allT_cons ?_ allT_nil))
          · refine opT_S (by kernel_rfl) ?_
            refine wpS_does1 (i := 12) (d := some 24) (rem := [_]) (out := [_, _, _]) rfl (by rfl) rfl Try.call27 (Does.ofList (bheavy_d (listT [_, _]) _ ⟨y.d.b.k, y.vp, y.vn, y.vc⟩ y.d.b.v (vRowE 0 rfl rowT_reads) (vRowE 1 rfl hyl.out.v) hvn.out hyl.out.lv)) rfl HM28.out [0, 1] rfl (covS_box 0 rfl covS_nil) rfl rfl ?_
            rintro W30 hm29 hg31
            rw [hm1.out]
            have HM32 := Lib.hid hm29
            clear hm29
            simp only [Act.put, List.setIfInBounds_toArray, List.set_cons_succ, List.set_cons_zero]
            refine wpS_nil ?_
            refine wpT_ready 15 [] (by kernel_rfl) (allT_cons ?_ allT_nil)
            refine opT_S (by kernel_rfl) ?_
            refine wpS_buildN elemR (i := 15) (dd := 27) (n := 1) (xs := [⟨y.d.r, y.rp, y.rn, y.rc⟩]) (cs := (rgC y.d.r (.slice y.rp y.rn y.rc) ++ []).toArray) rfl (by rfl) (fun _ => by kernel_rfl) rfl rfl HM32.out (covS_box 2 rfl covS_nil) rfl ?_
            rintro b36 W37 hm38 hg39
            have HM40 := Lib.hid hm38
            clear hm38
            simp only [Act.put, List.setIfInBounds_toArray, List.set_cons_succ, List.set_cons_zero]
            refine wpS_nil ?_
            refine wpT_ready 16 [] (by kernel_rfl) (allT_cons ?_ allT_nil)
            refine opT_S (by kernel_rfl) ?_
            refine wpS_does1 (i := 16) (d := some 28) (rem := [_, _, _]) (out := [_, _, _, _]) rfl (by rfl) rfl Try.call28 (heavy_d (rowT elemR _ _) _ _ rowOwnE (Nat.le_of_ble_eq_true rfl)) rfl HM40.out [0] rfl (covS_box 2 rfl covS_nil) rfl rfl ?_
            rintro W42 hm41 hg43
            rw [hm2.out]
            have HM44 := Lib.hid hm41
            clear hm41
            simp only [Act.put, List.setIfInBounds_toArray, List.set_cons_succ, List.set_cons_zero]
            refine wpS_nil ?_
            refine wpT_takeS (i := 17) (by kernel_rfl) (by kernel_rfl) ?_
            refine wpS_stay [17] rfl (by kernel_rfl) (by simp only [pickL, nthL, List.cons_append, List.nil_append]; rfl) ?_
            repeat (go_big_quiet_step (fail))
            refine wpQuiet_nil ?_
            refine wpS_nil ?_
            refine wpT_takeS (i := 18) (by kernel_rfl) (by kernel_rfl) ?_
            refine wpS_stay [18] rfl (by kernel_rfl) (by simp only [pickL, nthL, List.cons_append, List.nil_append]; rfl) ?_
            repeat (go_big_quiet_step (fail))
            refine wpQuiet_nil ?_
            refine wpS_nil ?_
            refine wpT_takeS (i := 19) (by kernel_rfl) (by kernel_rfl) ?_
            refine wpS_stay [19] rfl (by kernel_rfl) (by simp only [pickL, nthL, List.cons_append, List.nil_append]; rfl) ?_
            repeat (go_big_quiet_step (fail))
            refine wpQuiet_nil ?_
            refine wpS_nil ?_
            refine wpT_end (by kernel_rfl) ?_
            refine then_normal ?_
            refine ⟨by kernel_rfl, ?_⟩
            exact ⟨rfl, (Mem.only (M := [_, _]) HM44.out [3, 2] rfl)⟩
          · refine opT_S (by kernel_rfl) ?_
            refine wpS_buildN elemR (i := 15) (dd := 27) (n := 1) (xs := [⟨y.d.r, y.rp, y.rn, y.rc⟩]) (cs := (rgC y.d.r (.slice y.rp y.rn y.rc) ++ []).toArray) rfl (by rfl) (fun _ => by kernel_rfl) rfl rfl HM28.out (covS_box 1 rfl covS_nil) rfl ?_
            rintro b48 W49 hm50 hg51
            have HM52 := Lib.hid hm50
            clear hm50
            simp only [Act.put, List.setIfInBounds_toArray, List.set_cons_succ, List.set_cons_zero]
            refine wpS_nil ?_
            refine wpT_ready 12 [] (by kernel_rfl) (allT_cons ?_ allT_nil)
            refine opT_S (by kernel_rfl) ?_
            refine wpS_does1 (i := 12) (d := some 24) (rem := [_, _]) (out := [_, _, _, _]) rfl (by rfl) rfl Try.call27 (Does.ofList (bheavy_d (listT [_, _]) _ ⟨y.d.b.k, y.vp, y.vn, y.vc⟩ y.d.b.v (vRowE 0 rfl rowT_reads) (vRowE 1 rfl hyl.out.v) hvn.out hyl.out.lv)) rfl HM52.out [1, 2] rfl (covS_box 1 rfl covS_nil) rfl rfl ?_
            rintro W54 hm53 hg55
            rw [hm1.out]
            have HM56 := Lib.hid hm53
            clear hm53
            simp only [Act.put, List.setIfInBounds_toArray, List.set_cons_succ, List.set_cons_zero]
            refine wpS_nil ?_
            refine wpT_ready 16 [] (by kernel_rfl) (allT_cons ?_ allT_nil)
            refine opT_S (by kernel_rfl) ?_
            refine wpS_does1 (i := 16) (d := some 28) (rem := [_, _, _]) (out := [_, _, _, _]) rfl (by rfl) rfl Try.call28 (heavy_d (rowT elemR _ _) _ _ rowOwnE (Nat.le_of_ble_eq_true rfl)) rfl HM56.out [2] rfl (covS_box 2 rfl covS_nil) rfl rfl ?_
            rintro W58 hm57 hg59
            rw [hm2.out]
            have HM60 := Lib.hid hm57
            clear hm57
            simp only [Act.put, List.setIfInBounds_toArray, List.set_cons_succ, List.set_cons_zero]
            refine wpS_nil ?_
            refine wpT_takeS (i := 17) (by kernel_rfl) (by kernel_rfl) ?_
            refine wpS_stay [17] rfl (by kernel_rfl) (by simp only [pickL, nthL, List.cons_append, List.nil_append]; rfl) ?_
            repeat (go_big_quiet_step (fail))
            refine wpQuiet_nil ?_
            refine wpS_nil ?_
            refine wpT_takeS (i := 18) (by kernel_rfl) (by kernel_rfl) ?_
            refine wpS_stay [18] rfl (by kernel_rfl) (by simp only [pickL, nthL, List.cons_append, List.nil_append]; rfl) ?_
            repeat (go_big_quiet_step (fail))
            refine wpQuiet_nil ?_
            refine wpS_nil ?_
            refine wpT_takeS (i := 19) (by kernel_rfl) (by kernel_rfl) ?_
            refine wpS_stay [19] rfl (by kernel_rfl) (by simp only [pickL, nthL, List.cons_append, List.nil_append]; rfl) ?_
            repeat (go_big_quiet_step (fail))
            refine wpQuiet_nil ?_
            refine wpS_nil ?_
            refine wpT_end (by kernel_rfl) ?_
            refine then_normal ?_
            refine ⟨by kernel_rfl, ?_⟩
            exact ⟨rfl, (Mem.only (M := [_, _]) HM60.out [3, 2] rfl)⟩
        · refine opT_S (by kernel_rfl) ?_
          refine wpS_buildN elemR (i := 15) (dd := 27) (n := 1) (xs := [⟨y.d.r, y.rp, y.rn, y.rc⟩]) (cs := (rgC y.d.r (.slice y.rp y.rn y.rc) ++ []).toArray) rfl (by rfl) (fun _ => by kernel_rfl) rfl rfl HM20.out (covS_box 0 rfl covS_nil) rfl ?_
          rintro b64 W65 hm66 hg67
          have HM68 := Lib.hid hm66
          clear hm66
          simp only [Act.put, List.setIfInBounds_toArray, List.set_cons_succ, List.set_cons_zero]
          refine wpS_nil ?_
          refine wpT_ready 11 [] (by kernel_rfl) (allT_cons ?_ allT_nil)
          refine opT_S (by kernel_rfl) ?_
          refine wpS_buildN elemB (i := 11) (dd := 23) (n := 1) (xs := [⟨y.d.b.k, y.vp, y.vn, y.vc⟩]) (cs := (bgC y.d.b.k (.slice y.vp y.vn y.vc) ++ []).toArray) rfl (by rfl) (fun _ => by kernel_rfl) rfl rfl HM68.out (covS_box 1 rfl covS_nil) rfl ?_
          rintro b72 W73 hm74 hg75
          have HM76 := Lib.hid hm74
          clear hm74
          simp only [Act.put, List.setIfInBounds_toArray, List.set_cons_succ, List.set_cons_zero]
          refine wpS_nil ?_
          refine wpT_ready 12 [] (by kernel_rfl) (allT_cons ?_ allT_nil)
          refine opT_S (by kernel_rfl) ?_
          refine wpS_does1 (i := 12) (d := some 24) (rem := [_, _]) (out := [_, _, _, _]) rfl (by rfl) rfl Try.call27 (Does.ofList (bheavy_d (listT [_, _]) _ ⟨y.d.b.k, y.vp, y.vn, y.vc⟩ y.d.b.v (vRowE 0 rfl rowT_reads) (vRowE 1 rfl hyl.out.v) hvn.out hyl.out.lv)) rfl HM76.out [0, 2] rfl (covS_box 1 rfl covS_nil) rfl rfl ?_
          rintro W78 hm77 hg79
          rw [hm1.out]
          have HM80 := Lib.hid hm77
          clear hm77
          simp only [Act.put, List.setIfInBounds_toArray, List.set_cons_succ, List.set_cons_zero]
          refine wpS_nil ?_
          refine wpT_ready 16 [] (by kernel_rfl) (allT_cons ?_ allT_nil)
          refine opT_S (by kernel_rfl) ?_
          refine wpS_does1 (i := 16) (d := some 28) (rem := [_, _, _]) (out := [_, _, _, _]) rfl (by rfl) rfl Try.call28 (heavy_d (rowT elemR _ _) _ _ rowOwnE (Nat.le_of_ble_eq_true rfl)) rfl HM80.out [2] rfl (covS_box 2 rfl covS_nil) rfl rfl ?_
          rintro W82 hm81 hg83
          rw [hm2.out]
          have HM84 := Lib.hid hm81
          clear hm81
          simp only [Act.put, List.setIfInBounds_toArray, List.set_cons_succ, List.set_cons_zero]
          refine wpS_nil ?_
          refine wpT_takeS (i := 17) (by kernel_rfl) (by kernel_rfl) ?_
          refine wpS_stay [17] rfl (by kernel_rfl) (by simp only [pickL, nthL, List.cons_append, List.nil_append]; rfl) ?_
          repeat (go_big_quiet_step (fail))
          refine wpQuiet_nil ?_
          refine wpS_nil ?_
          refine wpT_takeS (i := 18) (by kernel_rfl) (by kernel_rfl) ?_
          refine wpS_stay [18] rfl (by kernel_rfl) (by simp only [pickL, nthL, List.cons_append, List.nil_append]; rfl) ?_
          repeat (go_big_quiet_step (fail))
          refine wpQuiet_nil ?_
          refine wpS_nil ?_
          refine wpT_takeS (i := 19) (by kernel_rfl) (by kernel_rfl) ?_
          refine wpS_stay [19] rfl (by kernel_rfl) (by simp only [pickL, nthL, List.cons_append, List.nil_append]; rfl) ?_
          repeat (go_big_quiet_step (fail))
          refine wpQuiet_nil ?_
          refine wpS_nil ?_
          refine wpT_end (by kernel_rfl) ?_
          refine then_normal ?_
          refine ⟨by kernel_rfl, ?_⟩
          exact ⟨rfl, (Mem.only (M := [_, _]) HM84.out [3, 2] rfl)⟩
      rintro vs W' ⟨e31, hm⟩
      simp only [putAll, List.map_cons, List.map_nil, Act.put, List.setIfInBounds_toArray, List.set_cons_succ, List.set_cons_zero]
      rw [e31]
      clear e31
      have HM85 := Lib.hid hm
      clear hm
      refine then_normal ?_
      refine wp_cond_true rfl ?_
      refine wp_seq ?_
      refine wp_region_N [(0, 1), (1, 1), (2, 1)] (by kernel_rfl) ?_
      refine wpS_this [0, 1, 2] rfl (by kernel_rfl) (by simp only [pickL, nthL, List.cons_append, List.nil_append]; rfl) ?_
      repeat (go_big_quiet_step (fail))
      refine wpQuiet_nil ?_
      refine wpS_nil ?_
      refine then_normal ?_
      refine wp_ret ?_
      refine block_ret (then_ret (then_ret (block_ret (then_ret ?_))))
      refine bodyPost_ret (results_tmp rfl _ _ _) rfl ?_
      rw [hst.out]
      exact does_ret (Mem.only (M := [_]) HM85.out [1] rfl) rfl rfl
    · have g6 : decide ((80 : Int) ≤ (k : Int)) = false := decide_eq_false (by omega)
      have g6' : decide (80 ≤ k) = false := decide_eq_false h1
      have g7 : decide ((200 : Int) < (y.d.key.size : Int)) = false := decide_eq_false (by omega)
      have g7' : decide (200 < y.d.key.size) = false := decide_eq_false h2
      obtain ⟨m1, hm1'⟩ := int_letter (heavyV y.d.b.v)
      obtain ⟨m2, hm2'⟩ := int_letter (hvy 0 [(⟨y.d.r, y.rp, y.rn, y.rc⟩ : Hc)])
      have hwm : wtX y = m1 + m2 := by unfold wtX; rw [hm1', hm2']
      have hr1 : (0 ≤ m1 ∧ m1 ≤ 1) ∧ 0 ≤ m2 ∧ m2 ≤ 1 := by rw [← hm1', ← hm2']; exact ⟨heavyV_01 _, hvy_01 _⟩
      obtain ⟨⟨hr1, hr2⟩, hr3, hr4⟩ := hr1
      rw [hwm] at h3
      have g8 : decide (0 < m1 + m2) = false := decide_eq_false h3
      have hgd : Hid (¬ (80 ≤ k ∨ badX y = true)) := Lib.hid (by unfold badX; rw [hwm, g8, decide_eq_false h2]; simp; omega)
      clear hwm
      have hm1 := Lib.hid hm1'
      clear hm1'
      have hm2 := Lib.hid hm2'
      clear hm2'
      replace h1 := Lib.hid h1
      replace h2 := Lib.hid h2
      replace h3 := Lib.hid h3
      refine wp_cut_F [12, 13, 14, 15, 16, 17, 18, 19, 20, 21, 22, 23, 24, 25, 26, 27, 28, 29, 30, 31] (fun vs W' => vs 31 = .bool false ∧ Mem [boxT b8 (.cells (ddC y.d (.slice y.vp y.vn y.vc) (.slice y.rp y.rn y.rc)).toArray 43 (0, 0)), R] H w W') ?_ ?_
      · refine wp_region_taken [] (fun k => k ∈ ([b8] : List Nat)) (by kernel_rfl) rfl rfl ?_
        have hm86 := HM12.out.drew
        have HM87 := Lib.hid hm86
        clear hm86
        refine wpT_takeS (i := 0) (by kernel_rfl) (by kernel_rfl) ?_
        refine wpS_stay [0] rfl (by kernel_rfl) (by simp only [pickL, nthL, List.cons_append, List.nil_append]; rfl) ?_
        repeat (go_big_quiet_step (fail))
        refine wpQuiet_nil ?_
        refine wpS_nil ?_
        refine wpT_takeS (i := 1) (by kernel_rfl) (by kernel_rfl) ?_
        refine wpS_stay [1] rfl (by kernel_rfl) (by simp only [pickL, nthL, List.cons_append, List.nil_append]; rfl) ?_
        repeat (go_big_quiet_step (fail))
        refine wpQuiet_nil ?_
        refine wpS_nil ?_
        refine wpT_takeS (i := 2) (by kernel_rfl) (by kernel_rfl) ?_
        refine wpS_stay [2] rfl (by kernel_rfl) (by simp only [pickL, nthL, List.cons_append, List.nil_append]; rfl) ?_
        repeat (go_big_quiet_step (fail))
        refine wpQuiet_nil ?_
        refine wpS_nil ?_
        refine wpT_takeS (i := 3) (by kernel_rfl) (by kernel_rfl) ?_
        refine wpS_stay [3] rfl (by kernel_rfl) (by simp only [pickL, nthL, List.cons_append, List.nil_append]; rfl) ?_
        repeat (go_big_quiet_step (fail))
        refine wpQuiet_nil ?_
        refine wpS_nil ?_
        refine wpT_takeS (i := 4) (by kernel_rfl) (by kernel_rfl) ?_
        refine wpS_load12 (i := 4) (d := some 16) (u := .string (y.d).key) rfl (by rfl) rfl rfl (by simp) (HM87.out.part1 0 rfl rfl) Try.underlying9 rfl rfl ?_
        simp only [Act.put, List.setIfInBounds_toArray, List.set_cons_succ, List.set_cons_zero]
        refine wpS_nil ?_
        refine wpT_takeS (i := 5) (by kernel_rfl) (by kernel_rfl) ?_
        refine wpS_stay [5] rfl (by kernel_rfl) (by simp only [pickL, nthL, List.cons_append, List.nil_append]; rfl) ?_
        repeat (go_big_quiet_step (fail))
        refine wpQuiet_nil ?_
        refine wpS_nil ?_
        refine wpT_takeS (i := 6) (by kernel_rfl) (by kernel_rfl) ?_
        refine wpS_stay [6] rfl (by kernel_rfl) (by simp only [pickL, nthL, List.cons_append, List.nil_append]; rfl) ?_
        repeat (go_big_quiet_step (fail))
        refine wpQuiet_nil ?_
        refine wpS_nil ?_
        refine wpT_takeS (i := 7) (by kernel_rfl) (by kernel_rfl) ?_
        refine wpS_stay [7] rfl (by kernel_rfl) (by simp only [pickL, nthL, List.cons_append, List.nil_append]; rfl) ?_
        repeat (go_big_quiet_step (fail))
        refine wpQuiet_nil ?_
        refine wpS_nil ?_
        refine wpT_takeS (i := 8) (by kernel_rfl) (by kernel_rfl) ?_
        refine wpS_stay [8] rfl (by kernel_rfl) (by simp only [pickL, nthL, List.cons_append, List.nil_append]; rfl) ?_
        repeat (go_big_quiet_step (fail))
        refine wpQuiet_nil ?_
        refine wpS_nil ?_
        refine wpT_takeS (i := 9) (by kernel_rfl) (by kernel_rfl) ?_
        refine wpS_stay [9] rfl (by kernel_rfl) (by simp only [pickL, nthL, List.cons_append, List.nil_append]; rfl) ?_
        repeat (go_big_quiet_step (fail))
        refine wpQuiet_nil ?_
        refine wpS_nil ?_
        refine wpT_takeS (i := 10) (by kernel_rfl) (by kernel_rfl) ?_
        refine wpS_loadA2 (i := 10) (d := some 22) (cells := bgC (y.d).b.k (.slice y.vp y.vn y.vc)) rfl (by rfl) rfl rfl (by simp) (HM87.out.part 0 rfl (ddC_bag)) Try.underlying33 rfl (by kernel_rfl) rfl ?_
        simp only [Act.put, List.setIfInBounds_toArray, List.set_cons_succ, List.set_cons_zero]
        refine wpS_nil ?_
        refine wpT_takeS (i := 13) (by kernel_rfl) (by kernel_rfl) ?_
        refine wpS_stay [13] rfl (by kernel_rfl) (by simp only [pickL, nthL, List.cons_append, List.nil_append]; rfl) ?_
        repeat (go_big_quiet_step (fail))
        refine wpQuiet_nil ?_
        refine wpS_nil ?_
        refine wpT_takeS (i := 14) (by kernel_rfl) (by kernel_rfl) ?_
        refine wpS_loadA2 (i := 14) (d := some 26) (cells := rgC (y.d).r (.slice y.rp y.rn y.rc)) rfl (by rfl) rfl rfl (by simp) (HM87.out.part 0 rfl (ddC_ring)) Try.underlying41 rfl (by kernel_rfl) rfl ?_
        simp only [Act.put, List.setIfInBounds_toArray, List.set_cons_succ, List.set_cons_zero]
        refine wpS_nil ?_
        refine wpT_ready 11 [15] (by kernel_rfl) (allT_cons ?_ (allT_cons ?_ allT_nil))
        · refine opT_S (by kernel_rfl) ?_
          refine wpS_buildN elemB (i := 11) (dd := 23) (n := 1) (xs := [⟨y.d.b.k, y.vp, y.vn, y.vc⟩]) (cs := (bgC y.d.b.k (.slice y.vp y.vn y.vc) ++ []).toArray) rfl (by rfl) (fun _ => by kernel_rfl) rfl rfl HM87.out (covS_box 0 rfl covS_nil) rfl ?_
          rintro b91 W92 hm93 hg94
          have HM95 := Lib.hid hm93
          clear hm93
          simp only [Act.put, List.setIfInBounds_toArray, List.set_cons_succ, List.set_cons_zero]
          refine wpS_nil ?_
          refine wpT_ready 12 [15] (by kernel_rfl) (allT_cons ?_ (allT_cons ?_ allT_nil))
          · refine opT_S (by kernel_rfl) ?_
            refine wpS_does1 (i := 12) (d := some 24) (rem := [_]) (out := [_, _, _]) rfl (by rfl) rfl Try.call27 (Does.ofList (bheavy_d (listT [_, _]) _ ⟨y.d.b.k, y.vp, y.vn, y.vc⟩ y.d.b.v (vRowE 0 rfl rowT_reads) (vRowE 1 rfl hyl.out.v) hvn.out hyl.out.lv)) rfl HM95.out [0, 1] rfl (covS_box 0 rfl covS_nil) rfl rfl ?_
            rintro W97 hm96 hg98
            rw [hm1.out]
            have HM99 := Lib.hid hm96
            clear hm96
            simp only [Act.put, List.setIfInBounds_toArray, List.set_cons_succ, List.set_cons_zero]
            refine wpS_nil ?_
            refine wpT_ready 15 [] (by kernel_rfl) (allT_cons ?_ allT_nil)
            refine opT_S (by kernel_rfl) ?_
            refine wpS_buildN elemR (i := 15) (dd := 27) (n := 1) (xs := [⟨y.d.r, y.rp, y.rn, y.rc⟩]) (cs := (rgC y.d.r (.slice y.rp y.rn y.rc) ++ []).toArray) rfl (by rfl) (fun _ => by kernel_rfl) rfl rfl HM99.out (covS_box 2 rfl covS_nil) rfl ?_
            rintro b103 W104 hm105 hg106
            have HM107 := Lib.hid hm105
            clear hm105
            simp only [Act.put, List.setIfInBounds_toArray, List.set_cons_succ, List.set_cons_zero]
            refine wpS_nil ?_
            refine wpT_ready 16 [] (by kernel_rfl) (allT_cons ?_ allT_nil)
            refine opT_S (by kernel_rfl) ?_
            refine wpS_does1 (i := 16) (d := some 28) (rem := [_, _, _]) (out := [_, _, _, _]) rfl (by rfl) rfl Try.call28 (heavy_d (rowT elemR _ _) _ _ rowOwnE (Nat.le_of_ble_eq_true rfl)) rfl HM107.out [0] rfl (covS_box 2 rfl covS_nil) rfl rfl ?_
            rintro W109 hm108 hg110
            rw [hm2.out]
            have HM111 := Lib.hid hm108
            clear hm108
            simp only [Act.put, List.setIfInBounds_toArray, List.set_cons_succ, List.set_cons_zero]
            refine wpS_nil ?_
            refine wpT_takeS (i := 17) (by kernel_rfl) (by kernel_rfl) ?_
            refine wpS_stay [17] rfl (by kernel_rfl) (by simp only [pickL, nthL, List.cons_append, List.nil_append]; rfl) ?_
            repeat (go_big_quiet_step (fail))
            refine wpQuiet_nil ?_
            refine wpS_nil ?_
            refine wpT_takeS (i := 18) (by kernel_rfl) (by kernel_rfl) ?_
            refine wpS_stay [18] rfl (by kernel_rfl) (by simp only [pickL, nthL, List.cons_append, List.nil_append]; rfl) ?_
            repeat (go_big_quiet_step (fail))
            refine wpQuiet_nil ?_
            refine wpS_nil ?_
            refine wpT_takeS (i := 19) (by kernel_rfl) (by kernel_rfl) ?_
            refine wpS_stay [19] rfl (by kernel_rfl) (by simp only [pickL, nthL, List.cons_append, List.nil_append]; rfl) ?_
            repeat (go_big_quiet_step (fail))
            refine wpQuiet_nil ?_
            refine wpS_nil ?_
            refine wpT_end (by kernel_rfl) ?_
            refine then_normal ?_
            refine ⟨by kernel_rfl, ?_⟩
            exact ⟨rfl, (Mem.only (M := [_, _]) HM111.out [3, 2] rfl)⟩
          · refine opT_S (by kernel_rfl) ?_
            refine wpS_buildN elemR (i := 15) (dd := 27) (n := 1) (xs := [⟨y.d.r, y.rp, y.rn, y.rc⟩]) (cs := (rgC y.d.r (.slice y.rp y.rn y.rc) ++ []).toArray) rfl (by rfl) (fun _ => by kernel_rfl) rfl rfl HM95.out (covS_box 1 rfl covS_nil) rfl ?_
            rintro b115 W116 hm117 hg118
            have HM119 := Lib.hid hm117
            clear hm117
            simp only [Act.put, List.setIfInBounds_toArray, List.set_cons_succ, List.set_cons_zero]
            refine wpS_nil ?_
            refine wpT_ready 12 [] (by kernel_rfl) (allT_cons ?_ allT_nil)
            refine opT_S (by kernel_rfl) ?_
            refine wpS_does1 (i := 12) (d := some 24) (rem := [_, _]) (out := [_, _, _, _]) rfl (by rfl) rfl Try.call27 (Does.ofList (bheavy_d (listT [_, _]) _ ⟨y.d.b.k, y.vp, y.vn, y.vc⟩ y.d.b.v (vRowE 0 rfl rowT_reads) (vRowE 1 rfl hyl.out.v) hvn.out hyl.out.lv)) rfl HM119.out [1, 2] rfl (covS_box 1 rfl covS_nil) rfl rfl ?_
            rintro W121 hm120 hg122
            rw [hm1.out]
            have HM123 := Lib.hid hm120
            clear hm120
            simp only [Act.put, List.setIfInBounds_toArray, List.set_cons_succ, List.set_cons_zero]
            refine wpS_nil ?_
            refine wpT_ready 16 [] (by kernel_rfl) (allT_cons ?_ allT_nil)
            refine opT_S (by kernel_rfl) ?_
            refine wpS_does1 (i := 16) (d := some 28) (rem := [_, _, _]) (out := [_, _, _, _]) rfl (by rfl) rfl Try.call28 (heavy_d (rowT elemR _ _) _ _ rowOwnE (Nat.le_of_ble_eq_true rfl)) rfl HM123.out [2] rfl (covS_box 2 rfl covS_nil) rfl rfl ?_
            rintro W125 hm124 hg126
            rw [hm2.out]
            have HM127 := Lib.hid hm124
            clear hm124
            simp only [Act.put, List.setIfInBounds_toArray, List.set_cons_succ, List.set_cons_zero]
            refine wpS_nil ?_
            refine wpT_takeS (i := 17) (by kernel_rfl) (by kernel_rfl) ?_
            refine wpS_stay [17] rfl (by kernel_rfl) (by simp only [pickL, nthL, List.cons_append, List.nil_append]; rfl) ?_
            repeat (go_big_quiet_step (fail))
            refine wpQuiet_nil ?_
            refine wpS_nil ?_
            refine wpT_takeS (i := 18) (by kernel_rfl) (by kernel_rfl) ?_
            refine wpS_stay [18] rfl (by kernel_rfl) (by simp only [pickL, nthL, List.cons_append, List.nil_append]; rfl) ?_
            repeat (go_big_quiet_step (fail))
            refine wpQuiet_nil ?_
            refine wpS_nil ?_
            refine wpT_takeS (i := 19) (by kernel_rfl) (by kernel_rfl) ?_
            refine wpS_stay [19] rfl (by kernel_rfl) (by simp only [pickL, nthL, List.cons_append, List.nil_append]; rfl) ?_
            repeat (go_big_quiet_step (fail))
            refine wpQuiet_nil ?_
            refine wpS_nil ?_
            refine wpT_end (by kernel_rfl) ?_
            refine then_normal ?_
            refine ⟨by kernel_rfl, ?_⟩
            exact ⟨rfl, (Mem.only (M := [_, _]) HM127.out [3, 2] rfl)⟩
        · refine opT_S (by kernel_rfl) ?_
          refine wpS_buildN elemR (i := 15) (dd := 27) (n := 1) (xs := [⟨y.d.r, y.rp, y.rn, y.rc⟩]) (cs := (rgC y.d.r (.slice y.rp y.rn y.rc) ++ []).toArray) rfl (by rfl) (fun _ => by kernel_rfl) rfl rfl HM87.out (covS_box 0 rfl covS_nil) rfl ?_
          rintro b131 W132 hm133 hg134
          have HM135 := Lib.hid hm133
          clear hm133
          simp only [Act.put, List.setIfInBounds_toArray, List.set_cons_succ, List.set_cons_zero]
          refine wpS_nil ?_
          refine wpT_ready 11 [] (by kernel_rfl) (allT_cons ?_ allT_nil)
          refine opT_S (by kernel_rfl) ?_
          refine wpS_buildN elemB (i := 11) (dd := 23) (n := 1) (xs := [⟨y.d.b.k, y.vp, y.vn, y.vc⟩]) (cs := (bgC y.d.b.k (.slice y.vp y.vn y.vc) ++ []).toArray) rfl (by rfl) (fun _ => by kernel_rfl) rfl rfl HM135.out (covS_box 1 rfl covS_nil) rfl ?_
          rintro b139 W140 hm141 hg142
          have HM143 := Lib.hid hm141
          clear hm141
          simp only [Act.put, List.setIfInBounds_toArray, List.set_cons_succ, List.set_cons_zero]
          refine wpS_nil ?_
          refine wpT_ready 12 [] (by kernel_rfl) (allT_cons ?_ allT_nil)
          refine opT_S (by kernel_rfl) ?_
          refine wpS_does1 (i := 12) (d := some 24) (rem := [_, _]) (out := [_, _, _, _]) rfl (by rfl) rfl Try.call27 (Does.ofList (bheavy_d (listT [_, _]) _ ⟨y.d.b.k, y.vp, y.vn, y.vc⟩ y.d.b.v (vRowE 0 rfl rowT_reads) (vRowE 1 rfl hyl.out.v) hvn.out hyl.out.lv)) rfl HM143.out [0, 2] rfl (covS_box 1 rfl covS_nil) rfl rfl ?_
          rintro W145 hm144 hg146
          rw [hm1.out]
          have HM147 := Lib.hid hm144
          clear hm144
          simp only [Act.put, List.setIfInBounds_toArray, List.set_cons_succ, List.set_cons_zero]
          refine wpS_nil ?_
          refine wpT_ready 16 [] (by kernel_rfl) (allT_cons ?_ allT_nil)
          refine opT_S (by kernel_rfl) ?_
          refine wpS_does1 (i := 16) (d := some 28) (rem := [_, _, _]) (out := [_, _, _, _]) rfl (by rfl) rfl Try.call28 (heavy_d (rowT elemR _ _) _ _ rowOwnE (Nat.le_of_ble_eq_true rfl)) rfl HM147.out [2] rfl (covS_box 2 rfl covS_nil) rfl rfl ?_
          rintro W149 hm148 hg150
          rw [hm2.out]
          have HM151 := Lib.hid hm148
          clear hm148
          simp only [Act.put, List.setIfInBounds_toArray, List.set_cons_succ, List.set_cons_zero]
          refine wpS_nil ?_
          refine wpT_takeS (i := 17) (by kernel_rfl) (by kernel_rfl) ?_
          refine wpS_stay [17] rfl (by kernel_rfl) (by simp only [pickL, nthL, List.cons_append, List.nil_append]; rfl) ?_
          repeat (go_big_quiet_step (fail))
          refine wpQuiet_nil ?_
          refine wpS_nil ?_
          refine wpT_takeS (i := 18) (by kernel_rfl) (by kernel_rfl) ?_
          refine wpS_stay [18] rfl (by kernel_rfl) (by simp only [pickL, nthL, List.cons_append, List.nil_append]; rfl) ?_
          repeat (go_big_quiet_step (fail))
          refine wpQuiet_nil ?_
          refine wpS_nil ?_
          refine wpT_takeS (i := 19) (by kernel_rfl) (by kernel_rfl) ?_
          refine wpS_stay [19] rfl (by kernel_rfl) (by simp only [pickL, nthL, List.cons_append, List.nil_append]; rfl) ?_
          repeat (go_big_quiet_step (fail))
          refine wpQuiet_nil ?_
          refine wpS_nil ?_
          refine wpT_end (by kernel_rfl) ?_
          refine then_normal ?_
          refine ⟨by kernel_rfl, ?_⟩
          exact ⟨rfl, (Mem.only (M := [_, _]) HM151.out [3, 2] rfl)⟩
      rintro vs W' ⟨e31, hm⟩
      simp only [putAll, List.map_cons, List.map_nil, Act.put, List.setIfInBounds_toArray, List.set_cons_succ, List.set_cons_zero]
      rw [e31]
      clear e31
      have HM152 := Lib.hid hm
      clear hm
      refine then_normal ?_
      refine wp_cond_false rfl ?_
      refine wp_skip ?_
      refine block_normal ?_
      refine then_normal ?_
      refine wp_region_N [(0, 1), (1, 1)] (by kernel_rfl) ?_
      refine wpS_this [0, 1] rfl (by kernel_rfl) (by simp only [pickL, nthL, List.cons_append, List.nil_append]; rfl) ?_
      repeat (go_big_quiet_step (fail))
      refine wpQuiet_nil ?_
      refine wpS_nil ?_
      refine then_normal ?_
      refine ⟨by kernel_rfl, ?_⟩
      refine ⟨l.length - (k + 1), by omega, k + 1, rfl, rfl, hk1, ?_, (Mem.only (M := [_]) HM152.out [1] rfl)⟩
      exact ⟨by rw [← hf.out.1, hvyX_step hy.out hgd.out], by have := h1.out; omega⟩
  · have hge : Hid (l.length ≤ k) := Lib.hid (by have : ¬ (k : Int) < ((l.length : Nat) : Int) := (by simpa using h2); omega)
    clear h2
    refine wp_exit ?_
    refine then_exit (then_exit (block_exit ?_))
    refine then_normal ?_
    refine wp_seq ?_
    refine wp_region_N [(0, 1)] (by kernel_rfl) ?_
    refine wpS_this [0] rfl (by kernel_rfl) (by simp only [pickL, nthL, List.cons_append, List.nil_append]; rfl) ?_
    repeat (go_big_quiet_step (fail))
    refine wpQuiet_nil ?_
    refine wpS_nil ?_
    refine then_normal ?_
    refine wp_ret ?_
    refine bodyPost_ret (results_tmp rfl _ _ _) rfl ?_
    rw [← hf.out.1, hvyX_end hge.out]
    exact does_ret (Mem.only (M := [_]) HM1.out [0] rfl) rfl rfl

end Go.Proofs.Ytnahhbpaijfpbaa
