/- Vaults: the laws' light. -/
import Derived.Test.YthaabnlhhfnalaaVtC
import Derived.Test.YthaabnlhhfnalaaLgD
import Derived.Test.YthaabnlhhfnalaaPA
namespace Go.Proofs.Ythaabnlhhfnalaa
open Go Go.RowKit Go.BigFrame
def wtC (x : Cv) : Int := heavyV x.b.v + hvy 0 [⟨x.r, x.rp, x.rn, x.rc⟩]
def badC (x : Cv) : Bool := decide (200 < x.key.size) || (decide (300 < x.data.size) || decide (0 < wtC x))
def litC (l : List Cv) : Bool := decide (l.length ≤ 60) && l.all fun c => !badC c
def litCk (l : List Cv) (k : Nat) : Prop := k ≤ 60 ∧ ∀ c ∈ l.take k, badC c = false
theorem litC_zero (l : List Cv) : litCk l 0 := ⟨Nat.zero_le _, fun c h => by simp at h⟩
theorem litC_next {l : List Cv} {k : Nat} {y : Cv} (h : litCk l k) (hy : l[k]? = some y) (hk : ¬ 60 ≤ k) (hg : badC y = false) : litCk l (k + 1) := by
 refine ⟨by omega, fun c hc => ?_⟩
 have hlt := (List.getElem?_eq_some_iff.1 hy).1
 have he := (List.getElem?_eq_some_iff.1 hy).2
 rw [List.take_succ_eq_append_getElem hlt, he, List.mem_append, List.mem_singleton] at hc
 rcases hc with hc | rfl
 ·exact h.2 c hc
 ·exact hg
theorem litC_end {l : List Cv} {k : Nat} (h : litCk l k) (hk : l.length ≤ k) : litC l = true := by
 have h2 := h.2
 rw [List.take_of_length_le hk] at h2
 unfold litC
 rw [Bool.and_eq_true]
 exact ⟨decide_eq_true (Nat.le_trans hk h.1), List.all_eq_true.2 fun c hc => by rw [h2 c hc]; rfl⟩
theorem litC_long {l : List Cv} {k : Nat} (hk : 60 ≤ k) (h1 : k + 1 ≤ l.length) : litC l = false := by
 unfold litC
 rw [show decide (l.length ≤ 60) = false from decide_eq_false (by omega)]
 rfl
theorem litC_bad {l : List Cv} {k : Nat} {y : Cv} (hy : l[k]? = some y) (hg : badC y = true) : litC l = false := by
 unfold litC
 rw [show (l.all fun c => !badC c) = false from by
  rw [Bool.eq_false_iff]
  intro q
  rw [List.all_eq_true] at q
  have := q y (List.mem_of_getElem? hy)
  rw [hg] at this
  cases this]
 rw [Bool.and_false]
theorem litC_of {l : List Cv} (h : litC l = true) : l.length ≤ 60 ∧ ∀ c ∈ l, badC c = false := by
 unfold litC at h
 rw [Bool.and_eq_true, List.all_eq_true] at h
 exact ⟨of_decide_eq_true h.1, fun c hc => by simpa using h.2 c hc⟩
theorem badC_of {x : Cv} (h : badC x = false) : x.key.size ≤ 200 ∧ x.data.size ≤ 300 := by
 unfold badC at h
 simp only [Bool.or_eq_false_iff, decide_eq_false_iff_not] at h
 exact ⟨by omega, by omega⟩
theorem hvyV_01 (l : List Vl) : 0 ≤ heavyV l ∧ heavyV l ≤ 1 := by
 unfold heavyV
 split
 ·exact ⟨by decide, by decide⟩
 ·exact ⟨by decide, by decide⟩
theorem hvyR_01 (x : Hc) : 0 ≤ hvy 0 [x] ∧ hvy 0 [x] ≤ 1 := by
 by_cases h : x.n ≤ 100
 ·have : hvy 0 [x] = 0 := by simp [hvy, h]
  rw [this]
  decide
 ·have : hvy 0 [x] = 1 := by simp [hvy, h]
  rw [this]
  decide
theorem vRowE8 {α : Type} {E : Elem Try.prog α} {v : Value} {xs : List α} {l : List At} (i : Nat) {A : At} (hi : l[i]? = some A) (hA : Reads E A v xs) : ∀ W H, (listT l).p W H → RowAt E W v xs := fun W H h => rowAt_src (vL i hi hA W H h)
structure CvL (R : At) (x : Cv) : Prop where
 v : Reads elemV R x.sv x.b.v
 lv : x.b.v.length ≤ 4398046510976
 r : Reads elemI R x.sr x.r.p.2.2
theorem CvL.one {R A : At} {x : Cv} (h : CvL R x) : ∀ y ∈ [x], CvL (listT [A, R]) y := fun y hy => by
 rw [List.mem_singleton] at hy
 subst hy
 exact ⟨vL 1 rfl h.v, h.lv, vL 1 rfl h.r⟩
theorem CvL.old {W0 : World} {x : Cv} (h : CvQ W0 x) (lv : x.b.v.length ≤ 4398046510976) : CvL (oldT W0) x := ⟨vOld h.1, lv, srcOld h.2⟩
set_option maxHeartbeats 4000000 in
set_option maxRecDepth 100000 in
theorem lightV_d (R : At) (v : Value) (l : List Cv) (hR : ∀ W H, R.p W H → RowAt elemC W v l) (hl : ∀ y ∈ l, CvL R y) : Does Try.prog 6 #[v] [R] (.bool (litC l)) [R] := by
 intro w H hp
 have HM0 := Lib.hid (mem_refl hp)
 clear hp
 obtain ⟨p, cap, rfl, -⟩ := (HM0.out.row 0 rfl hR).form
 go_enter Try.func6, Try.ntmps6
 refine wp_seq (wQ ?_)
 refine wp_seq (wp_seq (wQ ?_))
 refine wp_block ?_
 refine wp_loop_F [2, 3, 4, 7, 8, 9, 10, 11, 12, 13, 14, 15, 16, 17, 18, 19, 20, 21, 22, 23, 24, 25, 26, 27, 28, 29, 30, 31, 32, 33, 34, 35, 36, 37, 38] (fun n vs W' => ∃ k : Nat, n = l.length - k ∧ vs 7 = .int .i64 (k : Int) ∧ k ≤ l.length ∧ litCk l k ∧ Mem [R] H w W') (n0 := l.length) ?_ ?_
 ·exact ⟨0, rfl, rfl, Nat.zero_le _, litC_zero l, (Mem.only (M := [_]) HM0.out [0] rfl)⟩
 rintro n vs W' ⟨k, rfl, e7, hk, hf, hm⟩
 simp only [putAll, List.map_cons, List.map_nil, Act.put, List.setIfInBounds_toArray, List.set_cons_succ, List.set_cons_zero]
 rw [e7]
 clear e7
 have hf := Lib.hid hf
 have hk60 := hf.out.1
 have HM1 := Lib.hid hm
 clear hm
 refine wp_seq (wQ ?_)
 refine wp_seq ?_
 refine wp_cond_split rfl (fun h2 => ?_) (fun h2 => ?_)
 ·have hk1 : k + 1 ≤ l.length := by have : (k : Int) < ((l.length : Nat) : Int) := (by simpa using h2); omega
  clear h2
  obtain ⟨y, hy'⟩ : ∃ y, l[k]? = some y := ⟨_, List.getElem?_eq_getElem (hk1)⟩
  have hy := Lib.hid hy'
  clear hy'
  have hyl := Lib.hid (hl y (List.mem_of_getElem? hy.out))
  have hvn : Hid (y.vn = y.b.v.length) := Lib.hid (by obtain ⟨_, p, c, e, _⟩ := Mem.src HM1.out 0 rfl hyl.out.v; exact (Value.slice.inj e).2.1)
  refine wp_skip (then_normal (wp_seq (wp_block (wp_seq (wN [(0, 1), (1, 1), (2, 1), (3, 3), (4, 1), (5, 3)] (wT [0] ?_))))))
  refine wI elemC 1 (HM1.out.row 0 rfl hR) (hy.out) fun eb3 eo4 hc5 => ?_
  refine wL 2 (cvC y) hc5 Try.underlying45 ?_
  refine wpS_alloc (i := 3) (dd := 4) (z := .agg (cvC default).toArray) (cs := (cvC default).toArray) rfl (by rfl) rfl (by kernel_rfl) rfl HM1.out covS_nil rfl ?_
  rintro b8 W7 hm6 -
  have HM9 := Lib.hid hm6
  clear hm6
  simp only [Act.put, List.setIfInBounds_toArray, List.set_cons_succ, List.set_cons_zero]
  refine wT [4] ?_
  refine wXkh (hone := (List.all_eq_true.2 (elemC.one y))) 5 [_] (cvC y) HM9 0 fun W11 HM12 => ?_
  refine wZ (wp_seq ?_)
  rcases (show 60 ≤ k ∨ (¬ 60 ≤ k ∧ 200 < y.key.size) ∨ (¬ 60 ≤ k ∧ ¬ 200 < y.key.size ∧ 300 < y.data.size) ∨ (¬ 60 ≤ k ∧ ¬ 200 < y.key.size ∧ ¬ 300 < y.data.size ∧ 0 < wtC y) ∨ (¬ 60 ≤ k ∧ ¬ 200 < y.key.size ∧ ¬ 300 < y.data.size ∧ ¬ 0 < wtC y) from by omega) with h1 | ⟨h1, h2⟩ | ⟨h1, h2, h4⟩ | ⟨h1, h2, h4, h3⟩ | ⟨h1, h2, h4, h3⟩
  ·have g6 : decide ((60 : Int) ≤ (k : Int)) = true := decide_eq_true (by omega)
   have g6' : decide (60 ≤ k) = true := decide_eq_true h1
   have hc := Lib.hid (litC_long h1 hk1)
   replace h1 := Lib.hid h1
   refine wp_cut_F [12, 13, 14, 15, 16, 17, 18, 19, 20, 21, 22, 23, 24, 25, 26, 27, 28, 29, 30, 31, 32, 33, 34, 35, 36, 37] (fun vs W' => vs 37 = .bool true ∧ Mem [boxT b8 (.cells (cvC y).toArray 45 (0, 0)), R] H w W') ?_ ?_
   ·refine wp_region_taken [] (fun k => k ∈ ([b8] : List Nat)) (by kernel_rfl) rfl rfl ?_
    have hm13 := HM12.out.drew
    have HM14 := Lib.hid hm13
    clear hm13
    refine wpT_takeS (i := 0) (by kernel_rfl) (by kernel_rfl) ?_
    refine wS [0] ?_
    refine wpS_nil ?_
    refine wpT_takeS (i := 1) (by kernel_rfl) (by kernel_rfl) ?_
    refine wS [1] ?_
    refine wpS_nil ?_
    refine wpT_takeS (i := 2) (by kernel_rfl) (by kernel_rfl) ?_
    refine wS [2] ?_
    refine wpS_nil ?_
    refine wpT_takeS (i := 3) (by kernel_rfl) (by kernel_rfl) ?_
    refine wS [3] ?_
    refine wpS_nil ?_
    refine wpT_takeS (i := 4) (by kernel_rfl) (by kernel_rfl) ?_
    refine wK 4 ?_
    refine wpS_nil ?_
    refine wpT_takeS (i := 5) (by kernel_rfl) (by kernel_rfl) ?_
    refine wS [5] ?_
    refine wpS_nil ?_
    refine wpT_takeS (i := 6) (by kernel_rfl) (by kernel_rfl) ?_
    refine wS [6] ?_
    refine wpS_nil ?_
    refine wpT_takeS (i := 7) (by kernel_rfl) (by kernel_rfl) ?_
    refine wS [7] ?_
    refine wpS_nil ?_
    refine wpT_takeS (i := 8) (by kernel_rfl) (by kernel_rfl) ?_
    refine wS [8] ?_
    refine wpS_nil ?_
    refine wpT_takeS (i := 9) (by kernel_rfl) (by kernel_rfl) ?_
    refine wS [9] ?_
    refine wpS_nil ?_
    refine wpT_takeS (i := 10) (by kernel_rfl) (by kernel_rfl) ?_
    refine wK 10 ?_
    refine wpS_nil ?_
    refine wpT_takeS (i := 11) (by kernel_rfl) (by kernel_rfl) ?_
    refine wS [11] ?_
    refine wpS_nil ?_
    refine wpT_takeS (i := 12) (by kernel_rfl) (by kernel_rfl) ?_
    refine wS [12] ?_
    refine wpS_nil ?_
    refine wpT_takeS (i := 13) (by kernel_rfl) (by kernel_rfl) ?_
    refine wS [13] ?_
    refine wpS_nil ?_
    refine wpT_takeS (i := 14) (by kernel_rfl) (by kernel_rfl) ?_
    refine wS [14] ?_
    refine wpS_nil ?_
    refine wpT_takeS (i := 15) (by kernel_rfl) (by kernel_rfl) ?_
    refine wS [15] ?_
    refine wpS_nil ?_
    refine wpT_takeS (i := 16) (by kernel_rfl) (by kernel_rfl) ?_
    refine wK 16 ?_
    refine wpS_nil ?_
    refine wpT_takeS (i := 19) (by kernel_rfl) (by kernel_rfl) ?_
    refine wS [19] ?_
    refine wpS_nil ?_
    refine wpT_takeS (i := 20) (by kernel_rfl) (by kernel_rfl) ?_
    refine wK 20 ?_
    refine wpS_nil ?_
    refine wpT_ready 17 [21] (by kernel_rfl) (allT_cons ?_ (allT_cons ?_ allT_nil))
    ·refine opT_S (by kernel_rfl) ?_
     refine wK 17 ?_
     refine wpS_nil ?_
     refine wpT_ready 18 [21] (by kernel_rfl) (allT_cons ?_ (allT_cons ?_ allT_nil))
     ·refine opT_S (by kernel_rfl) ?_
      refine wK 18 ?_
      refine wpS_nil ?_
      refine wpT_ready 21 [] (by kernel_rfl) (allT_cons ?_ allT_nil)
      refine opT_S (by kernel_rfl) ?_
      refine wK 21 ?_
      refine wpS_nil ?_
      refine wpT_ready 22 [] (by kernel_rfl) (allT_cons ?_ allT_nil)
      refine opT_S (by kernel_rfl) ?_
      refine wK 22 ?_
      refine wpS_nil ?_
      refine wpT_takeS (i := 23) (by kernel_rfl) (by kernel_rfl) ?_
      refine wS [23] ?_
      refine wpS_nil ?_
      refine wpT_takeS (i := 24) (by kernel_rfl) (by kernel_rfl) ?_
      refine wS [24] ?_
      refine wpS_nil ?_
      refine wpT_takeS (i := 25) (by kernel_rfl) (by kernel_rfl) ?_
      refine wS [25] ?_
      refine wpS_nil ?_
      refine wpT_end (by kernel_rfl) ?_
      refine then_normal ?_
      refine ⟨by kernel_rfl, ?_⟩
      exact ⟨rfl, (Mem.only (M := [_, _]) HM14.out [0, 0] rfl)⟩
     ·refine opT_S (by kernel_rfl) ?_
      refine wK 21 ?_
      refine wpS_nil ?_
      refine wpT_ready 18 [] (by kernel_rfl) (allT_cons ?_ allT_nil)
      refine opT_S (by kernel_rfl) ?_
      refine wK 18 ?_
      refine wpS_nil ?_
      refine wpT_ready 22 [] (by kernel_rfl) (allT_cons ?_ allT_nil)
      refine opT_S (by kernel_rfl) ?_
      refine wK 22 ?_
      refine wpS_nil ?_
      refine wpT_takeS (i := 23) (by kernel_rfl) (by kernel_rfl) ?_
      refine wS [23] ?_
      refine wpS_nil ?_
      refine wpT_takeS (i := 24) (by kernel_rfl) (by kernel_rfl) ?_
      refine wS [24] ?_
      refine wpS_nil ?_
      refine wpT_takeS (i := 25) (by kernel_rfl) (by kernel_rfl) ?_
      refine wS [25] ?_
      refine wpS_nil ?_
      refine wpT_end (by kernel_rfl) ?_
      refine then_normal ?_
      refine ⟨by kernel_rfl, ?_⟩
      exact ⟨rfl, (Mem.only (M := [_, _]) HM14.out [0, 0] rfl)⟩
    ·refine opT_S (by kernel_rfl) ?_
     refine wK 21 ?_
     refine wpS_nil ?_
     refine wpT_ready 17 [] (by kernel_rfl) (allT_cons ?_ allT_nil)
     refine opT_S (by kernel_rfl) ?_
     refine wK 17 ?_
     refine wpS_nil ?_
     refine wpT_ready 18 [] (by kernel_rfl) (allT_cons ?_ allT_nil)
     refine opT_S (by kernel_rfl) ?_
     refine wK 18 ?_
     refine wpS_nil ?_
     refine wpT_ready 22 [] (by kernel_rfl) (allT_cons ?_ allT_nil)
     refine opT_S (by kernel_rfl) ?_
     refine wK 22 ?_
     refine wpS_nil ?_
     refine wpT_takeS (i := 23) (by kernel_rfl) (by kernel_rfl) ?_
     refine wS [23] ?_
     refine wpS_nil ?_
     refine wpT_takeS (i := 24) (by kernel_rfl) (by kernel_rfl) ?_
     refine wS [24] ?_
     refine wpS_nil ?_
     refine wpT_takeS (i := 25) (by kernel_rfl) (by kernel_rfl) ?_
     refine wS [25] ?_
     refine wpS_nil ?_
     refine wpT_end (by kernel_rfl) ?_
     refine then_normal ?_
     refine ⟨by kernel_rfl, ?_⟩
     exact ⟨rfl, (Mem.only (M := [_, _]) HM14.out [0, 0] rfl)⟩
   rintro vs W' ⟨e37, hm⟩
   simp only [putAll, List.map_cons, List.map_nil, Act.put, List.setIfInBounds_toArray, List.set_cons_succ, List.set_cons_zero]
   rw [e37]
   clear e37
   have HM15 := Lib.hid hm
   clear hm
   refine then_normal (wp_cond_true rfl (wp_seq (wQ ?_)))
   refine wp_ret ?_
   refine block_ret (then_ret (then_ret (block_ret (then_ret ?_))))
   refine bodyPost_ret (results_tmp rfl _ _ _) rfl ?_
   rw [hc.out]
   exact does_ret (Mem.only (M := [_]) HM15.out [1] rfl) rfl rfl
  ·have g6 : decide ((60 : Int) ≤ (k : Int)) = false := decide_eq_false (by omega)
   have g6' : decide (60 ≤ k) = false := decide_eq_false h1
   have g7 : decide ((200 : Int) < (y.key.size : Int)) = true := decide_eq_true (by omega)
   have g7' : decide (200 < y.key.size) = true := decide_eq_true h2
   have hc : Hid (litC l = false) := Lib.hid (litC_bad hy.out (by unfold badC; rw [decide_eq_true h2]; rfl))
   replace h1 := Lib.hid h1
   replace h2 := Lib.hid h2
   refine wp_cut_F [12, 13, 14, 15, 16, 17, 18, 19, 20, 21, 22, 23, 24, 25, 26, 27, 28, 29, 30, 31, 32, 33, 34, 35, 36, 37] (fun vs W' => vs 37 = .bool true ∧ Mem [boxT b8 (.cells (cvC y).toArray 45 (0, 0)), R] H w W') ?_ ?_
   ·refine wp_region_taken [] (fun k => k ∈ ([b8] : List Nat)) (by kernel_rfl) rfl rfl ?_
    have hm16 := HM12.out.drew
    have HM17 := Lib.hid hm16
    clear hm16
    refine wpT_takeS (i := 0) (by kernel_rfl) (by kernel_rfl) ?_
    refine wS [0] ?_
    refine wpS_nil ?_
    refine wpT_takeS (i := 1) (by kernel_rfl) (by kernel_rfl) ?_
    refine wS [1] ?_
    refine wpS_nil ?_
    refine wpT_takeS (i := 2) (by kernel_rfl) (by kernel_rfl) ?_
    refine wS [2] ?_
    refine wpS_nil ?_
    refine wpT_takeS (i := 3) (by kernel_rfl) (by kernel_rfl) ?_
    refine wS [3] ?_
    refine wpS_nil ?_
    refine wpT_takeS (i := 4) (by kernel_rfl) (by kernel_rfl) ?_
    refine wM2 4 (.string y.key) (HM17.out.part1 0 rfl cvC_key) Try.underlying9 ?_
    refine wpS_nil ?_
    refine wpT_takeS (i := 5) (by kernel_rfl) (by kernel_rfl) ?_
    refine wS [5] ?_
    refine wpS_nil ?_
    refine wpT_takeS (i := 6) (by kernel_rfl) (by kernel_rfl) ?_
    refine wS [6] ?_
    refine wpS_nil ?_
    refine wpT_takeS (i := 7) (by kernel_rfl) (by kernel_rfl) ?_
    refine wS [7] ?_
    refine wpS_nil ?_
    refine wpT_takeS (i := 8) (by kernel_rfl) (by kernel_rfl) ?_
    refine wS [8] ?_
    refine wpS_nil ?_
    refine wpT_takeS (i := 9) (by kernel_rfl) (by kernel_rfl) ?_
    refine wS [9] ?_
    refine wpS_nil ?_
    refine wpT_takeS (i := 10) (by kernel_rfl) (by kernel_rfl) ?_
    refine wK 10 ?_
    refine wpS_nil ?_
    refine wpT_takeS (i := 11) (by kernel_rfl) (by kernel_rfl) ?_
    refine wS [11] ?_
    refine wpS_nil ?_
    refine wpT_takeS (i := 12) (by kernel_rfl) (by kernel_rfl) ?_
    refine wS [12] ?_
    refine wpS_nil ?_
    refine wpT_takeS (i := 13) (by kernel_rfl) (by kernel_rfl) ?_
    refine wS [13] ?_
    refine wpS_nil ?_
    refine wpT_takeS (i := 14) (by kernel_rfl) (by kernel_rfl) ?_
    refine wS [14] ?_
    refine wpS_nil ?_
    refine wpT_takeS (i := 15) (by kernel_rfl) (by kernel_rfl) ?_
    refine wS [15] ?_
    refine wpS_nil ?_
    refine wpT_takeS (i := 16) (by kernel_rfl) (by kernel_rfl) ?_
    refine wK 16 ?_
    refine wpS_nil ?_
    refine wpT_takeS (i := 19) (by kernel_rfl) (by kernel_rfl) ?_
    refine wS [19] ?_
    refine wpS_nil ?_
    refine wpT_takeS (i := 20) (by kernel_rfl) (by kernel_rfl) ?_
    refine wK 20 ?_
    refine wpS_nil ?_
    refine wpT_ready 17 [21] (by kernel_rfl) (allT_cons ?_ (allT_cons ?_ allT_nil))
    ·refine opT_S (by kernel_rfl) ?_
     refine wK 17 ?_
     refine wpS_nil ?_
     refine wpT_ready 18 [21] (by kernel_rfl) (allT_cons ?_ (allT_cons ?_ allT_nil))
     ·refine opT_S (by kernel_rfl) ?_
      refine wK 18 ?_
      refine wpS_nil ?_
      refine wpT_ready 21 [] (by kernel_rfl) (allT_cons ?_ allT_nil)
      refine opT_S (by kernel_rfl) ?_
      refine wK 21 ?_
      refine wpS_nil ?_
      refine wpT_ready 22 [] (by kernel_rfl) (allT_cons ?_ allT_nil)
      refine opT_S (by kernel_rfl) ?_
      refine wK 22 ?_
      refine wpS_nil ?_
      refine wpT_takeS (i := 23) (by kernel_rfl) (by kernel_rfl) ?_
      refine wS [23] ?_
      refine wpS_nil ?_
      refine wpT_takeS (i := 24) (by kernel_rfl) (by kernel_rfl) ?_
      refine wS [24] ?_
      refine wpS_nil ?_
      refine wpT_takeS (i := 25) (by kernel_rfl) (by kernel_rfl) ?_
      refine wS [25] ?_
      refine wpS_nil ?_
      refine wpT_end (by kernel_rfl) ?_
      refine then_normal ?_
      refine ⟨by kernel_rfl, ?_⟩
      exact ⟨rfl, (Mem.only (M := [_, _]) HM17.out [0, 0] rfl)⟩
     ·refine opT_S (by kernel_rfl) ?_
      refine wK 21 ?_
      refine wpS_nil ?_
      refine wpT_ready 18 [] (by kernel_rfl) (allT_cons ?_ allT_nil)
      refine opT_S (by kernel_rfl) ?_
      refine wK 18 ?_
      refine wpS_nil ?_
      refine wpT_ready 22 [] (by kernel_rfl) (allT_cons ?_ allT_nil)
      refine opT_S (by kernel_rfl) ?_
      refine wK 22 ?_
      refine wpS_nil ?_
      refine wpT_takeS (i := 23) (by kernel_rfl) (by kernel_rfl) ?_
      refine wS [23] ?_
      refine wpS_nil ?_
      refine wpT_takeS (i := 24) (by kernel_rfl) (by kernel_rfl) ?_
      refine wS [24] ?_
      refine wpS_nil ?_
      refine wpT_takeS (i := 25) (by kernel_rfl) (by kernel_rfl) ?_
      refine wS [25] ?_
      refine wpS_nil ?_
      refine wpT_end (by kernel_rfl) ?_
      refine then_normal ?_
      refine ⟨by kernel_rfl, ?_⟩
      exact ⟨rfl, (Mem.only (M := [_, _]) HM17.out [0, 0] rfl)⟩
    ·refine opT_S (by kernel_rfl) ?_
     refine wK 21 ?_
     refine wpS_nil ?_
     refine wpT_ready 17 [] (by kernel_rfl) (allT_cons ?_ allT_nil)
     refine opT_S (by kernel_rfl) ?_
     refine wK 17 ?_
     refine wpS_nil ?_
     refine wpT_ready 18 [] (by kernel_rfl) (allT_cons ?_ allT_nil)
     refine opT_S (by kernel_rfl) ?_
     refine wK 18 ?_
     refine wpS_nil ?_
     refine wpT_ready 22 [] (by kernel_rfl) (allT_cons ?_ allT_nil)
     refine opT_S (by kernel_rfl) ?_
     refine wK 22 ?_
     refine wpS_nil ?_
     refine wpT_takeS (i := 23) (by kernel_rfl) (by kernel_rfl) ?_
     refine wS [23] ?_
     refine wpS_nil ?_
     refine wpT_takeS (i := 24) (by kernel_rfl) (by kernel_rfl) ?_
     refine wS [24] ?_
     refine wpS_nil ?_
     refine wpT_takeS (i := 25) (by kernel_rfl) (by kernel_rfl) ?_
     refine wS [25] ?_
     refine wpS_nil ?_
     refine wpT_end (by kernel_rfl) ?_
     refine then_normal ?_
     refine ⟨by kernel_rfl, ?_⟩
     exact ⟨rfl, (Mem.only (M := [_, _]) HM17.out [0, 0] rfl)⟩
   rintro vs W' ⟨e37, hm⟩
   simp only [putAll, List.map_cons, List.map_nil, Act.put, List.setIfInBounds_toArray, List.set_cons_succ, List.set_cons_zero]
   rw [e37]
   clear e37
   have HM18 := Lib.hid hm
   clear hm
   refine then_normal (wp_cond_true rfl (wp_seq (wQ ?_)))
   refine wp_ret ?_
   refine block_ret (then_ret (then_ret (block_ret (then_ret ?_))))
   refine bodyPost_ret (results_tmp rfl _ _ _) rfl ?_
   rw [hc.out]
   exact does_ret (Mem.only (M := [_]) HM18.out [1] rfl) rfl rfl
  ·have g6 : decide ((60 : Int) ≤ (k : Int)) = false := decide_eq_false (by omega)
   have g6' : decide (60 ≤ k) = false := decide_eq_false h1
   have g7 : decide ((200 : Int) < (y.key.size : Int)) = false := decide_eq_false (by omega)
   have g7' : decide (200 < y.key.size) = false := decide_eq_false h2
   have g9 : decide ((300 : Int) < (y.data.size : Int)) = true := decide_eq_true (by omega)
   have g9' : decide (300 < y.data.size) = true := decide_eq_true h4
   have hc : Hid (litC l = false) := Lib.hid (litC_bad hy.out (by unfold badC; rw [decide_eq_true h4, Bool.true_or, Bool.or_true]))
   replace h1 := Lib.hid h1
   replace h2 := Lib.hid h2
   replace h4 := Lib.hid h4
   refine wp_cut_F [12, 13, 14, 15, 16, 17, 18, 19, 20, 21, 22, 23, 24, 25, 26, 27, 28, 29, 30, 31, 32, 33, 34, 35, 36, 37] (fun vs W' => vs 37 = .bool true ∧ Mem [boxT b8 (.cells (cvC y).toArray 45 (0, 0)), R] H w W') ?_ ?_
   ·refine wp_region_taken [] (fun k => k ∈ ([b8] : List Nat)) (by kernel_rfl) rfl rfl ?_
    have hm19 := HM12.out.drew
    have HM20 := Lib.hid hm19
    clear hm19
    refine wpT_takeS (i := 0) (by kernel_rfl) (by kernel_rfl) ?_
    refine wS [0] ?_
    refine wpS_nil ?_
    refine wpT_takeS (i := 1) (by kernel_rfl) (by kernel_rfl) ?_
    refine wS [1] ?_
    refine wpS_nil ?_
    refine wpT_takeS (i := 2) (by kernel_rfl) (by kernel_rfl) ?_
    refine wS [2] ?_
    refine wpS_nil ?_
    refine wpT_takeS (i := 3) (by kernel_rfl) (by kernel_rfl) ?_
    refine wS [3] ?_
    refine wpS_nil ?_
    refine wpT_takeS (i := 4) (by kernel_rfl) (by kernel_rfl) ?_
    refine wM2 4 (.string y.key) (HM20.out.part1 0 rfl cvC_key) Try.underlying9 ?_
    refine wpS_nil ?_
    refine wpT_takeS (i := 5) (by kernel_rfl) (by kernel_rfl) ?_
    refine wS [5] ?_
    refine wpS_nil ?_
    refine wpT_takeS (i := 6) (by kernel_rfl) (by kernel_rfl) ?_
    refine wS [6] ?_
    refine wpS_nil ?_
    refine wpT_takeS (i := 7) (by kernel_rfl) (by kernel_rfl) ?_
    refine wS [7] ?_
    refine wpS_nil ?_
    refine wpT_takeS (i := 8) (by kernel_rfl) (by kernel_rfl) ?_
    refine wS [8] ?_
    refine wpS_nil ?_
    refine wpT_takeS (i := 9) (by kernel_rfl) (by kernel_rfl) ?_
    refine wS [9] ?_
    refine wpS_nil ?_
    refine wpT_takeS (i := 10) (by kernel_rfl) (by kernel_rfl) ?_
    refine wM2 10 (.string y.data) (HM20.out.part1 0 rfl cvC_data) Try.underlying9 ?_
    refine wpS_nil ?_
    refine wpT_takeS (i := 11) (by kernel_rfl) (by kernel_rfl) ?_
    refine wS [11] ?_
    refine wpS_nil ?_
    refine wpT_takeS (i := 12) (by kernel_rfl) (by kernel_rfl) ?_
    refine wS [12] ?_
    refine wpS_nil ?_
    refine wpT_takeS (i := 13) (by kernel_rfl) (by kernel_rfl) ?_
    refine wS [13] ?_
    refine wpS_nil ?_
    refine wpT_takeS (i := 14) (by kernel_rfl) (by kernel_rfl) ?_
    refine wS [14] ?_
    refine wpS_nil ?_
    refine wpT_takeS (i := 15) (by kernel_rfl) (by kernel_rfl) ?_
    refine wS [15] ?_
    refine wpS_nil ?_
    refine wpT_takeS (i := 16) (by kernel_rfl) (by kernel_rfl) ?_
    refine wK 16 ?_
    refine wpS_nil ?_
    refine wpT_takeS (i := 19) (by kernel_rfl) (by kernel_rfl) ?_
    refine wS [19] ?_
    refine wpS_nil ?_
    refine wpT_takeS (i := 20) (by kernel_rfl) (by kernel_rfl) ?_
    refine wK 20 ?_
    refine wpS_nil ?_
    refine wpT_ready 17 [21] (by kernel_rfl) (allT_cons ?_ (allT_cons ?_ allT_nil))
    ·refine opT_S (by kernel_rfl) ?_
     refine wK 17 ?_
     refine wpS_nil ?_
     refine wpT_ready 18 [21] (by kernel_rfl) (allT_cons ?_ (allT_cons ?_ allT_nil))
     ·refine opT_S (by kernel_rfl) ?_
      refine wK 18 ?_
      refine wpS_nil ?_
      refine wpT_ready 21 [] (by kernel_rfl) (allT_cons ?_ allT_nil)
      refine opT_S (by kernel_rfl) ?_
      refine wK 21 ?_
      refine wpS_nil ?_
      refine wpT_ready 22 [] (by kernel_rfl) (allT_cons ?_ allT_nil)
      refine opT_S (by kernel_rfl) ?_
      refine wK 22 ?_
      refine wpS_nil ?_
      refine wpT_takeS (i := 23) (by kernel_rfl) (by kernel_rfl) ?_
      refine wS [23] ?_
      refine wpS_nil ?_
      refine wpT_takeS (i := 24) (by kernel_rfl) (by kernel_rfl) ?_
      refine wS [24] ?_
      refine wpS_nil ?_
      refine wpT_takeS (i := 25) (by kernel_rfl) (by kernel_rfl) ?_
      refine wS [25] ?_
      refine wpS_nil ?_
      refine wpT_end (by kernel_rfl) ?_
      refine then_normal ?_
      refine ⟨by kernel_rfl, ?_⟩
      exact ⟨rfl, (Mem.only (M := [_, _]) HM20.out [0, 0] rfl)⟩
     ·refine opT_S (by kernel_rfl) ?_
      refine wK 21 ?_
      refine wpS_nil ?_
      refine wpT_ready 18 [] (by kernel_rfl) (allT_cons ?_ allT_nil)
      refine opT_S (by kernel_rfl) ?_
      refine wK 18 ?_
      refine wpS_nil ?_
      refine wpT_ready 22 [] (by kernel_rfl) (allT_cons ?_ allT_nil)
      refine opT_S (by kernel_rfl) ?_
      refine wK 22 ?_
      refine wpS_nil ?_
      refine wpT_takeS (i := 23) (by kernel_rfl) (by kernel_rfl) ?_
      refine wS [23] ?_
      refine wpS_nil ?_
      refine wpT_takeS (i := 24) (by kernel_rfl) (by kernel_rfl) ?_
      refine wS [24] ?_
      refine wpS_nil ?_
      refine wpT_takeS (i := 25) (by kernel_rfl) (by kernel_rfl) ?_
      refine wS [25] ?_
      refine wpS_nil ?_
      refine wpT_end (by kernel_rfl) ?_
      refine then_normal ?_
      refine ⟨by kernel_rfl, ?_⟩
      exact ⟨rfl, (Mem.only (M := [_, _]) HM20.out [0, 0] rfl)⟩
    ·refine opT_S (by kernel_rfl) ?_
     refine wK 21 ?_
     refine wpS_nil ?_
     refine wpT_ready 17 [] (by kernel_rfl) (allT_cons ?_ allT_nil)
     refine opT_S (by kernel_rfl) ?_
     refine wK 17 ?_
     refine wpS_nil ?_
     refine wpT_ready 18 [] (by kernel_rfl) (allT_cons ?_ allT_nil)
     refine opT_S (by kernel_rfl) ?_
     refine wK 18 ?_
     refine wpS_nil ?_
     refine wpT_ready 22 [] (by kernel_rfl) (allT_cons ?_ allT_nil)
     refine opT_S (by kernel_rfl) ?_
     refine wK 22 ?_
     refine wpS_nil ?_
     refine wpT_takeS (i := 23) (by kernel_rfl) (by kernel_rfl) ?_
     refine wS [23] ?_
     refine wpS_nil ?_
     refine wpT_takeS (i := 24) (by kernel_rfl) (by kernel_rfl) ?_
     refine wS [24] ?_
     refine wpS_nil ?_
     refine wpT_takeS (i := 25) (by kernel_rfl) (by kernel_rfl) ?_
     refine wS [25] ?_
     refine wpS_nil ?_
     refine wpT_end (by kernel_rfl) ?_
     refine then_normal ?_
     refine ⟨by kernel_rfl, ?_⟩
     exact ⟨rfl, (Mem.only (M := [_, _]) HM20.out [0, 0] rfl)⟩
   rintro vs W' ⟨e37, hm⟩
   simp only [putAll, List.map_cons, List.map_nil, Act.put, List.setIfInBounds_toArray, List.set_cons_succ, List.set_cons_zero]
   rw [e37]
   clear e37
   have HM21 := Lib.hid hm
   clear hm
   refine then_normal (wp_cond_true rfl (wp_seq (wQ ?_)))
   refine wp_ret ?_
   refine block_ret (then_ret (then_ret (block_ret (then_ret ?_))))
   refine bodyPost_ret (results_tmp rfl _ _ _) rfl ?_
   rw [hc.out]
   exact does_ret (Mem.only (M := [_]) HM21.out [1] rfl) rfl rfl
  ·have g6 : decide ((60 : Int) ≤ (k : Int)) = false := decide_eq_false (by omega)
   have g6' : decide (60 ≤ k) = false := decide_eq_false h1
   have g7 : decide ((200 : Int) < (y.key.size : Int)) = false := decide_eq_false (by omega)
   have g7' : decide (200 < y.key.size) = false := decide_eq_false h2
   have g9 : decide ((300 : Int) < (y.data.size : Int)) = false := decide_eq_false (by omega)
   have g9' : decide (300 < y.data.size) = false := decide_eq_false h4
   obtain ⟨m1, hm1'⟩ := int_letter (heavyV y.b.v)
   obtain ⟨m2, hm2'⟩ := int_letter (hvy 0 [(⟨y.r, y.rp, y.rn, y.rc⟩ : Hc)])
   have hwm : wtC y = m1 + m2 := by unfold wtC; rw [hm1', hm2']
   have hr1 : (0 ≤ m1 ∧ m1 ≤ 1) ∧ 0 ≤ m2 ∧ m2 ≤ 1 := by rw [← hm1', ← hm2']; exact ⟨hvyV_01 _, hvyR_01 _⟩
   obtain ⟨⟨hr1, hr2⟩, hr3, hr4⟩ := hr1
   rw [hwm] at h3
   have g8 : decide (0 < m1 + m2) = true := decide_eq_true h3
   have hc : Hid (litC l = false) := Lib.hid (litC_bad hy.out (by unfold badC; rw [hwm, g8, Bool.or_true, Bool.or_true]))
   clear hwm
   have hm1 := Lib.hid hm1'
   clear hm1'
   have hm2 := Lib.hid hm2'
   clear hm2'
   replace h1 := Lib.hid h1
   replace h2 := Lib.hid h2
   replace h3 := Lib.hid h3
   replace h4 := Lib.hid h4
   refine wp_cut_F [12, 13, 14, 15, 16, 17, 18, 19, 20, 21, 22, 23, 24, 25, 26, 27, 28, 29, 30, 31, 32, 33, 34, 35, 36, 37] (fun vs W' => vs 37 = .bool true ∧ Mem [boxT b8 (.cells (cvC y).toArray 45 (0, 0)), R] H w W') ?_ ?_
   ·refine wp_region_taken [] (fun k => k ∈ ([b8] : List Nat)) (by kernel_rfl) rfl rfl ?_
    have hm22 := HM12.out.drew
    have HM23 := Lib.hid hm22
    clear hm22
    refine wpT_takeS (i := 0) (by kernel_rfl) (by kernel_rfl) ?_
    refine wS [0] ?_
    refine wpS_nil ?_
    refine wpT_takeS (i := 1) (by kernel_rfl) (by kernel_rfl) ?_
    refine wS [1] ?_
    refine wpS_nil ?_
    refine wpT_takeS (i := 2) (by kernel_rfl) (by kernel_rfl) ?_
    refine wS [2] ?_
    refine wpS_nil ?_
    refine wpT_takeS (i := 3) (by kernel_rfl) (by kernel_rfl) ?_
    refine wS [3] ?_
    refine wpS_nil ?_
    refine wpT_takeS (i := 4) (by kernel_rfl) (by kernel_rfl) ?_
    refine wM2 4 (.string y.key) (HM23.out.part1 0 rfl cvC_key) Try.underlying9 ?_
    refine wpS_nil ?_
    refine wpT_takeS (i := 5) (by kernel_rfl) (by kernel_rfl) ?_
    refine wS [5] ?_
    refine wpS_nil ?_
    refine wpT_takeS (i := 6) (by kernel_rfl) (by kernel_rfl) ?_
    refine wS [6] ?_
    refine wpS_nil ?_
    refine wpT_takeS (i := 7) (by kernel_rfl) (by kernel_rfl) ?_
    refine wS [7] ?_
    refine wpS_nil ?_
    refine wpT_takeS (i := 8) (by kernel_rfl) (by kernel_rfl) ?_
    refine wS [8] ?_
    refine wpS_nil ?_
    refine wpT_takeS (i := 9) (by kernel_rfl) (by kernel_rfl) ?_
    refine wS [9] ?_
    refine wpS_nil ?_
    refine wpT_takeS (i := 10) (by kernel_rfl) (by kernel_rfl) ?_
    refine wM2 10 (.string y.data) (HM23.out.part1 0 rfl cvC_data) Try.underlying9 ?_
    refine wpS_nil ?_
    refine wpT_takeS (i := 11) (by kernel_rfl) (by kernel_rfl) ?_
    refine wS [11] ?_
    refine wpS_nil ?_
    refine wpT_takeS (i := 12) (by kernel_rfl) (by kernel_rfl) ?_
    refine wS [12] ?_
    refine wpS_nil ?_
    refine wpT_takeS (i := 13) (by kernel_rfl) (by kernel_rfl) ?_
    refine wS [13] ?_
    refine wpS_nil ?_
    refine wpT_takeS (i := 14) (by kernel_rfl) (by kernel_rfl) ?_
    refine wS [14] ?_
    refine wpS_nil ?_
    refine wpT_takeS (i := 15) (by kernel_rfl) (by kernel_rfl) ?_
    refine wS [15] ?_
    refine wpS_nil ?_
    refine wpT_takeS (i := 16) (by kernel_rfl) (by kernel_rfl) ?_
    refine wL2 16 (bgC y.b.k (.slice y.vp y.vn y.vc)) (HM23.out.part 0 rfl (cvC_bag)) Try.underlying43 ?_
    refine wpS_nil ?_
    refine wpT_takeS (i := 19) (by kernel_rfl) (by kernel_rfl) ?_
    refine wS [19] ?_
    refine wpS_nil ?_
    refine wpT_takeS (i := 20) (by kernel_rfl) (by kernel_rfl) ?_
    refine wL2 20 (rgC y.r (.slice y.rp y.rn y.rc)) (HM23.out.part 0 rfl (cvC_ring)) Try.underlying39 ?_
    refine wpS_nil ?_
    refine wpT_ready 17 [21] (by kernel_rfl) (allT_cons ?_ (allT_cons ?_ allT_nil))
    ·refine opT_S (by kernel_rfl) ?_
     refine wpS_buildN elemB (i := 17) (dd := 29) (n := 1) (xs := [⟨y.b.k, y.vp, y.vn, y.vc⟩]) (cs := (bgC y.b.k (.slice y.vp y.vn y.vc) ++ []).toArray) rfl (by rfl) (fun _ => by kernel_rfl) rfl rfl HM23.out (covS_box 0 rfl covS_nil) rfl ?_
     rintro b27 W28 hm29 hg30
     have HM31 := Lib.hid hm29
     clear hm29
     simp only [Act.put, List.setIfInBounds_toArray, List.set_cons_succ, List.set_cons_zero]
     refine wpS_nil ?_
     refine wpT_ready 18 [21] (by kernel_rfl) (allT_cons ?_ (allT_cons ?_ allT_nil))
     ·refine opT_S (by kernel_rfl) ?_
      refine wD1 (hS := (covS_box 0 rfl covS_nil)) 18 [_] [_, _, _] Try.call23 (Does.ofList (bheavy_d (listT [_, _]) _ ⟨y.b.k, y.vp, y.vn, y.vc⟩ y.b.v (vRowE8 0 rfl rowT_reads) (vRowE8 1 rfl hyl.out.v) hvn.out hyl.out.lv)) HM31 [0, 1] fun W33 hm32 => ?_
      rw [hm1.out]
      have HM35 := Lib.hid hm32
      clear hm32
      refine wpS_nil ?_
      refine wpT_ready 21 [] (by kernel_rfl) (allT_cons ?_ allT_nil)
      refine opT_S (by kernel_rfl) ?_
      refine wpS_buildN elemR (i := 21) (dd := 33) (n := 1) (xs := [⟨y.r, y.rp, y.rn, y.rc⟩]) (cs := (rgC y.r (.slice y.rp y.rn y.rc) ++ []).toArray) rfl (by rfl) (fun _ => by kernel_rfl) rfl rfl HM35.out (covS_box 2 rfl covS_nil) rfl ?_
      rintro b39 W40 hm41 hg42
      have HM43 := Lib.hid hm41
      clear hm41
      simp only [Act.put, List.setIfInBounds_toArray, List.set_cons_succ, List.set_cons_zero]
      refine wpS_nil ?_
      refine wpT_ready 22 [] (by kernel_rfl) (allT_cons ?_ allT_nil)
      refine opT_S (by kernel_rfl) ?_
      refine wD1 (hS := (covS_box 2 rfl covS_nil)) 22 [_, _, _] [_, _, _, _] Try.call24 (heavy_d (rowT elemR _ _) _ _ rowOwnE (Nat.le_of_ble_eq_true rfl)) HM43 [0] fun W45 hm44 => ?_
      rw [hm2.out]
      have HM47 := Lib.hid hm44
      clear hm44
      refine wpS_nil ?_
      refine wpT_takeS (i := 23) (by kernel_rfl) (by kernel_rfl) ?_
      refine wS [23] ?_
      refine wpS_nil ?_
      refine wpT_takeS (i := 24) (by kernel_rfl) (by kernel_rfl) ?_
      refine wS [24] ?_
      refine wpS_nil ?_
      refine wpT_takeS (i := 25) (by kernel_rfl) (by kernel_rfl) ?_
      refine wS [25] ?_
      refine wpS_nil ?_
      refine wpT_end (by kernel_rfl) ?_
      refine then_normal ?_
      refine ⟨by kernel_rfl, ?_⟩
      exact ⟨rfl, (Mem.only (M := [_, _]) HM47.out [3, 2] rfl)⟩
     ·refine opT_S (by kernel_rfl) ?_
      refine wpS_buildN elemR (i := 21) (dd := 33) (n := 1) (xs := [⟨y.r, y.rp, y.rn, y.rc⟩]) (cs := (rgC y.r (.slice y.rp y.rn y.rc) ++ []).toArray) rfl (by rfl) (fun _ => by kernel_rfl) rfl rfl HM31.out (covS_box 1 rfl covS_nil) rfl ?_
      rintro b51 W52 hm53 hg54
      have HM55 := Lib.hid hm53
      clear hm53
      simp only [Act.put, List.setIfInBounds_toArray, List.set_cons_succ, List.set_cons_zero]
      refine wpS_nil ?_
      refine wpT_ready 18 [] (by kernel_rfl) (allT_cons ?_ allT_nil)
      refine opT_S (by kernel_rfl) ?_
      refine wD1 (hS := (covS_box 1 rfl covS_nil)) 18 [_, _] [_, _, _, _] Try.call23 (Does.ofList (bheavy_d (listT [_, _]) _ ⟨y.b.k, y.vp, y.vn, y.vc⟩ y.b.v (vRowE8 0 rfl rowT_reads) (vRowE8 1 rfl hyl.out.v) hvn.out hyl.out.lv)) HM55 [1, 2] fun W57 hm56 => ?_
      rw [hm1.out]
      have HM59 := Lib.hid hm56
      clear hm56
      refine wpS_nil ?_
      refine wpT_ready 22 [] (by kernel_rfl) (allT_cons ?_ allT_nil)
      refine opT_S (by kernel_rfl) ?_
      refine wD1 (hS := (covS_box 2 rfl covS_nil)) 22 [_, _, _] [_, _, _, _] Try.call24 (heavy_d (rowT elemR _ _) _ _ rowOwnE (Nat.le_of_ble_eq_true rfl)) HM59 [2] fun W61 hm60 => ?_
      rw [hm2.out]
      have HM63 := Lib.hid hm60
      clear hm60
      refine wpS_nil ?_
      refine wpT_takeS (i := 23) (by kernel_rfl) (by kernel_rfl) ?_
      refine wS [23] ?_
      refine wpS_nil ?_
      refine wpT_takeS (i := 24) (by kernel_rfl) (by kernel_rfl) ?_
      refine wS [24] ?_
      refine wpS_nil ?_
      refine wpT_takeS (i := 25) (by kernel_rfl) (by kernel_rfl) ?_
      refine wS [25] ?_
      refine wpS_nil ?_
      refine wpT_end (by kernel_rfl) ?_
      refine then_normal ?_
      refine ⟨by kernel_rfl, ?_⟩
      exact ⟨rfl, (Mem.only (M := [_, _]) HM63.out [3, 2] rfl)⟩
    ·refine opT_S (by kernel_rfl) ?_
     refine wpS_buildN elemR (i := 21) (dd := 33) (n := 1) (xs := [⟨y.r, y.rp, y.rn, y.rc⟩]) (cs := (rgC y.r (.slice y.rp y.rn y.rc) ++ []).toArray) rfl (by rfl) (fun _ => by kernel_rfl) rfl rfl HM23.out (covS_box 0 rfl covS_nil) rfl ?_
     rintro b67 W68 hm69 hg70
     have HM71 := Lib.hid hm69
     clear hm69
     simp only [Act.put, List.setIfInBounds_toArray, List.set_cons_succ, List.set_cons_zero]
     refine wpS_nil ?_
     refine wpT_ready 17 [] (by kernel_rfl) (allT_cons ?_ allT_nil)
     refine opT_S (by kernel_rfl) ?_
     refine wpS_buildN elemB (i := 17) (dd := 29) (n := 1) (xs := [⟨y.b.k, y.vp, y.vn, y.vc⟩]) (cs := (bgC y.b.k (.slice y.vp y.vn y.vc) ++ []).toArray) rfl (by rfl) (fun _ => by kernel_rfl) rfl rfl HM71.out (covS_box 1 rfl covS_nil) rfl ?_
     rintro b75 W76 hm77 hg78
     have HM79 := Lib.hid hm77
     clear hm77
     simp only [Act.put, List.setIfInBounds_toArray, List.set_cons_succ, List.set_cons_zero]
     refine wpS_nil ?_
     refine wpT_ready 18 [] (by kernel_rfl) (allT_cons ?_ allT_nil)
     refine opT_S (by kernel_rfl) ?_
     refine wD1 (hS := (covS_box 1 rfl covS_nil)) 18 [_, _] [_, _, _, _] Try.call23 (Does.ofList (bheavy_d (listT [_, _]) _ ⟨y.b.k, y.vp, y.vn, y.vc⟩ y.b.v (vRowE8 0 rfl rowT_reads) (vRowE8 1 rfl hyl.out.v) hvn.out hyl.out.lv)) HM79 [0, 2] fun W81 hm80 => ?_
     rw [hm1.out]
     have HM83 := Lib.hid hm80
     clear hm80
     refine wpS_nil ?_
     refine wpT_ready 22 [] (by kernel_rfl) (allT_cons ?_ allT_nil)
     refine opT_S (by kernel_rfl) ?_
     refine wD1 (hS := (covS_box 2 rfl covS_nil)) 22 [_, _, _] [_, _, _, _] Try.call24 (heavy_d (rowT elemR _ _) _ _ rowOwnE (Nat.le_of_ble_eq_true rfl)) HM83 [2] fun W85 hm84 => ?_
     rw [hm2.out]
     have HM87 := Lib.hid hm84
     clear hm84
     refine wpS_nil ?_
     refine wpT_takeS (i := 23) (by kernel_rfl) (by kernel_rfl) ?_
     refine wS [23] ?_
     refine wpS_nil ?_
     refine wpT_takeS (i := 24) (by kernel_rfl) (by kernel_rfl) ?_
     refine wS [24] ?_
     refine wpS_nil ?_
     refine wpT_takeS (i := 25) (by kernel_rfl) (by kernel_rfl) ?_
     refine wS [25] ?_
     refine wpS_nil ?_
     refine wpT_end (by kernel_rfl) ?_
     refine then_normal ?_
     refine ⟨by kernel_rfl, ?_⟩
     exact ⟨rfl, (Mem.only (M := [_, _]) HM87.out [3, 2] rfl)⟩
   rintro vs W' ⟨e37, hm⟩
   simp only [putAll, List.map_cons, List.map_nil, Act.put, List.setIfInBounds_toArray, List.set_cons_succ, List.set_cons_zero]
   rw [e37]
   clear e37
   have HM88 := Lib.hid hm
   clear hm
   refine then_normal (wp_cond_true rfl (wp_seq (wQ ?_)))
   refine wp_ret ?_
   refine block_ret (then_ret (then_ret (block_ret (then_ret ?_))))
   refine bodyPost_ret (results_tmp rfl _ _ _) rfl ?_
   rw [hc.out]
   exact does_ret (Mem.only (M := [_]) HM88.out [1] rfl) rfl rfl
  ·have g6 : decide ((60 : Int) ≤ (k : Int)) = false := decide_eq_false (by omega)
   have g6' : decide (60 ≤ k) = false := decide_eq_false h1
   have g7 : decide ((200 : Int) < (y.key.size : Int)) = false := decide_eq_false (by omega)
   have g7' : decide (200 < y.key.size) = false := decide_eq_false h2
   have g9 : decide ((300 : Int) < (y.data.size : Int)) = false := decide_eq_false (by omega)
   have g9' : decide (300 < y.data.size) = false := decide_eq_false h4
   obtain ⟨m1, hm1'⟩ := int_letter (heavyV y.b.v)
   obtain ⟨m2, hm2'⟩ := int_letter (hvy 0 [(⟨y.r, y.rp, y.rn, y.rc⟩ : Hc)])
   have hwm : wtC y = m1 + m2 := by unfold wtC; rw [hm1', hm2']
   have hr1 : (0 ≤ m1 ∧ m1 ≤ 1) ∧ 0 ≤ m2 ∧ m2 ≤ 1 := by rw [← hm1', ← hm2']; exact ⟨hvyV_01 _, hvyR_01 _⟩
   obtain ⟨⟨hr1, hr2⟩, hr3, hr4⟩ := hr1
   rw [hwm] at h3
   have g8 : decide (0 < m1 + m2) = false := decide_eq_false h3
   have hgd : Hid (badC y = false) := Lib.hid (by unfold badC; rw [hwm, g8, decide_eq_false h2, decide_eq_false h4]; rfl)
   clear hwm
   have hm1 := Lib.hid hm1'
   clear hm1'
   have hm2 := Lib.hid hm2'
   clear hm2'
   replace h1 := Lib.hid h1
   replace h2 := Lib.hid h2
   replace h3 := Lib.hid h3
   replace h4 := Lib.hid h4
   refine wp_cut_F [12, 13, 14, 15, 16, 17, 18, 19, 20, 21, 22, 23, 24, 25, 26, 27, 28, 29, 30, 31, 32, 33, 34, 35, 36, 37] (fun vs W' => vs 37 = .bool false ∧ Mem [boxT b8 (.cells (cvC y).toArray 45 (0, 0)), R] H w W') ?_ ?_
   ·refine wp_region_taken [] (fun k => k ∈ ([b8] : List Nat)) (by kernel_rfl) rfl rfl ?_
    have hm89 := HM12.out.drew
    have HM90 := Lib.hid hm89
    clear hm89
    refine wpT_takeS (i := 0) (by kernel_rfl) (by kernel_rfl) ?_
    refine wS [0] ?_
    refine wpS_nil ?_
    refine wpT_takeS (i := 1) (by kernel_rfl) (by kernel_rfl) ?_
    refine wS [1] ?_
    refine wpS_nil ?_
    refine wpT_takeS (i := 2) (by kernel_rfl) (by kernel_rfl) ?_
    refine wS [2] ?_
    refine wpS_nil ?_
    refine wpT_takeS (i := 3) (by kernel_rfl) (by kernel_rfl) ?_
    refine wS [3] ?_
    refine wpS_nil ?_
    refine wpT_takeS (i := 4) (by kernel_rfl) (by kernel_rfl) ?_
    refine wM2 4 (.string y.key) (HM90.out.part1 0 rfl cvC_key) Try.underlying9 ?_
    refine wpS_nil ?_
    refine wpT_takeS (i := 5) (by kernel_rfl) (by kernel_rfl) ?_
    refine wS [5] ?_
    refine wpS_nil ?_
    refine wpT_takeS (i := 6) (by kernel_rfl) (by kernel_rfl) ?_
    refine wS [6] ?_
    refine wpS_nil ?_
    refine wpT_takeS (i := 7) (by kernel_rfl) (by kernel_rfl) ?_
    refine wS [7] ?_
    refine wpS_nil ?_
    refine wpT_takeS (i := 8) (by kernel_rfl) (by kernel_rfl) ?_
    refine wS [8] ?_
    refine wpS_nil ?_
    refine wpT_takeS (i := 9) (by kernel_rfl) (by kernel_rfl) ?_
    refine wS [9] ?_
    refine wpS_nil ?_
    refine wpT_takeS (i := 10) (by kernel_rfl) (by kernel_rfl) ?_
    refine wM2 10 (.string y.data) (HM90.out.part1 0 rfl cvC_data) Try.underlying9 ?_
    refine wpS_nil ?_
    refine wpT_takeS (i := 11) (by kernel_rfl) (by kernel_rfl) ?_
    refine wS [11] ?_
    refine wpS_nil ?_
    refine wpT_takeS (i := 12) (by kernel_rfl) (by kernel_rfl) ?_
    refine wS [12] ?_
    refine wpS_nil ?_
    refine wpT_takeS (i := 13) (by kernel_rfl) (by kernel_rfl) ?_
    refine wS [13] ?_
    refine wpS_nil ?_
    refine wpT_takeS (i := 14) (by kernel_rfl) (by kernel_rfl) ?_
    refine wS [14] ?_
    refine wpS_nil ?_
    refine wpT_takeS (i := 15) (by kernel_rfl) (by kernel_rfl) ?_
    refine wS [15] ?_
    refine wpS_nil ?_
    refine wpT_takeS (i := 16) (by kernel_rfl) (by kernel_rfl) ?_
    refine wL2 16 (bgC y.b.k (.slice y.vp y.vn y.vc)) (HM90.out.part 0 rfl (cvC_bag)) Try.underlying43 ?_
    refine wpS_nil ?_
    refine wpT_takeS (i := 19) (by kernel_rfl) (by kernel_rfl) ?_
    refine wS [19] ?_
    refine wpS_nil ?_
    refine wpT_takeS (i := 20) (by kernel_rfl) (by kernel_rfl) ?_
    refine wL2 20 (rgC y.r (.slice y.rp y.rn y.rc)) (HM90.out.part 0 rfl (cvC_ring)) Try.underlying39 ?_
    refine wpS_nil ?_
    refine wpT_ready 17 [21] (by kernel_rfl) (allT_cons ?_ (allT_cons ?_ allT_nil))
    ·refine opT_S (by kernel_rfl) ?_
     refine wpS_buildN elemB (i := 17) (dd := 29) (n := 1) (xs := [⟨y.b.k, y.vp, y.vn, y.vc⟩]) (cs := (bgC y.b.k (.slice y.vp y.vn y.vc) ++ []).toArray) rfl (by rfl) (fun _ => by kernel_rfl) rfl rfl HM90.out (covS_box 0 rfl covS_nil) rfl ?_
     rintro b94 W95 hm96 hg97
     have HM98 := Lib.hid hm96
     clear hm96
     simp only [Act.put, List.setIfInBounds_toArray, List.set_cons_succ, List.set_cons_zero]
     refine wpS_nil ?_
     refine wpT_ready 18 [21] (by kernel_rfl) (allT_cons ?_ (allT_cons ?_ allT_nil))
     ·refine opT_S (by kernel_rfl) ?_
      refine wD1 (hS := (covS_box 0 rfl covS_nil)) 18 [_] [_, _, _] Try.call23 (Does.ofList (bheavy_d (listT [_, _]) _ ⟨y.b.k, y.vp, y.vn, y.vc⟩ y.b.v (vRowE8 0 rfl rowT_reads) (vRowE8 1 rfl hyl.out.v) hvn.out hyl.out.lv)) HM98 [0, 1] fun W100 hm99 => ?_
      rw [hm1.out]
      have HM102 := Lib.hid hm99
      clear hm99
      refine wpS_nil ?_
      refine wpT_ready 21 [] (by kernel_rfl) (allT_cons ?_ allT_nil)
      refine opT_S (by kernel_rfl) ?_
      refine wpS_buildN elemR (i := 21) (dd := 33) (n := 1) (xs := [⟨y.r, y.rp, y.rn, y.rc⟩]) (cs := (rgC y.r (.slice y.rp y.rn y.rc) ++ []).toArray) rfl (by rfl) (fun _ => by kernel_rfl) rfl rfl HM102.out (covS_box 2 rfl covS_nil) rfl ?_
      rintro b106 W107 hm108 hg109
      have HM110 := Lib.hid hm108
      clear hm108
      simp only [Act.put, List.setIfInBounds_toArray, List.set_cons_succ, List.set_cons_zero]
      refine wpS_nil ?_
      refine wpT_ready 22 [] (by kernel_rfl) (allT_cons ?_ allT_nil)
      refine opT_S (by kernel_rfl) ?_
      refine wD1 (hS := (covS_box 2 rfl covS_nil)) 22 [_, _, _] [_, _, _, _] Try.call24 (heavy_d (rowT elemR _ _) _ _ rowOwnE (Nat.le_of_ble_eq_true rfl)) HM110 [0] fun W112 hm111 => ?_
      rw [hm2.out]
      have HM114 := Lib.hid hm111
      clear hm111
      refine wpS_nil ?_
      refine wpT_takeS (i := 23) (by kernel_rfl) (by kernel_rfl) ?_
      refine wS [23] ?_
      refine wpS_nil ?_
      refine wpT_takeS (i := 24) (by kernel_rfl) (by kernel_rfl) ?_
      refine wS [24] ?_
      refine wpS_nil ?_
      refine wpT_takeS (i := 25) (by kernel_rfl) (by kernel_rfl) ?_
      refine wS [25] ?_
      refine wpS_nil ?_
      refine wpT_end (by kernel_rfl) ?_
      refine then_normal ?_
      refine ⟨by kernel_rfl, ?_⟩
      exact ⟨rfl, (Mem.only (M := [_, _]) HM114.out [3, 2] rfl)⟩
     ·refine opT_S (by kernel_rfl) ?_
      refine wpS_buildN elemR (i := 21) (dd := 33) (n := 1) (xs := [⟨y.r, y.rp, y.rn, y.rc⟩]) (cs := (rgC y.r (.slice y.rp y.rn y.rc) ++ []).toArray) rfl (by rfl) (fun _ => by kernel_rfl) rfl rfl HM98.out (covS_box 1 rfl covS_nil) rfl ?_
      rintro b118 W119 hm120 hg121
      have HM122 := Lib.hid hm120
      clear hm120
      simp only [Act.put, List.setIfInBounds_toArray, List.set_cons_succ, List.set_cons_zero]
      refine wpS_nil ?_
      refine wpT_ready 18 [] (by kernel_rfl) (allT_cons ?_ allT_nil)
      refine opT_S (by kernel_rfl) ?_
      refine wD1 (hS := (covS_box 1 rfl covS_nil)) 18 [_, _] [_, _, _, _] Try.call23 (Does.ofList (bheavy_d (listT [_, _]) _ ⟨y.b.k, y.vp, y.vn, y.vc⟩ y.b.v (vRowE8 0 rfl rowT_reads) (vRowE8 1 rfl hyl.out.v) hvn.out hyl.out.lv)) HM122 [1, 2] fun W124 hm123 => ?_
      rw [hm1.out]
      have HM126 := Lib.hid hm123
      clear hm123
      refine wpS_nil ?_
      refine wpT_ready 22 [] (by kernel_rfl) (allT_cons ?_ allT_nil)
      refine opT_S (by kernel_rfl) ?_
      refine wD1 (hS := (covS_box 2 rfl covS_nil)) 22 [_, _, _] [_, _, _, _] Try.call24 (heavy_d (rowT elemR _ _) _ _ rowOwnE (Nat.le_of_ble_eq_true rfl)) HM126 [2] fun W128 hm127 => ?_
      rw [hm2.out]
      have HM130 := Lib.hid hm127
      clear hm127
      refine wpS_nil ?_
      refine wpT_takeS (i := 23) (by kernel_rfl) (by kernel_rfl) ?_
      refine wS [23] ?_
      refine wpS_nil ?_
      refine wpT_takeS (i := 24) (by kernel_rfl) (by kernel_rfl) ?_
      refine wS [24] ?_
      refine wpS_nil ?_
      refine wpT_takeS (i := 25) (by kernel_rfl) (by kernel_rfl) ?_
      refine wS [25] ?_
      refine wpS_nil ?_
      refine wpT_end (by kernel_rfl) ?_
      refine then_normal ?_
      refine ⟨by kernel_rfl, ?_⟩
      exact ⟨rfl, (Mem.only (M := [_, _]) HM130.out [3, 2] rfl)⟩
    ·refine opT_S (by kernel_rfl) ?_
     refine wpS_buildN elemR (i := 21) (dd := 33) (n := 1) (xs := [⟨y.r, y.rp, y.rn, y.rc⟩]) (cs := (rgC y.r (.slice y.rp y.rn y.rc) ++ []).toArray) rfl (by rfl) (fun _ => by kernel_rfl) rfl rfl HM90.out (covS_box 0 rfl covS_nil) rfl ?_
     rintro b134 W135 hm136 hg137
     have HM138 := Lib.hid hm136
     clear hm136
     simp only [Act.put, List.setIfInBounds_toArray, List.set_cons_succ, List.set_cons_zero]
     refine wpS_nil ?_
     refine wpT_ready 17 [] (by kernel_rfl) (allT_cons ?_ allT_nil)
     refine opT_S (by kernel_rfl) ?_
     refine wpS_buildN elemB (i := 17) (dd := 29) (n := 1) (xs := [⟨y.b.k, y.vp, y.vn, y.vc⟩]) (cs := (bgC y.b.k (.slice y.vp y.vn y.vc) ++ []).toArray) rfl (by rfl) (fun _ => by kernel_rfl) rfl rfl HM138.out (covS_box 1 rfl covS_nil) rfl ?_
     rintro b142 W143 hm144 hg145
     have HM146 := Lib.hid hm144
     clear hm144
     simp only [Act.put, List.setIfInBounds_toArray, List.set_cons_succ, List.set_cons_zero]
     refine wpS_nil ?_
     refine wpT_ready 18 [] (by kernel_rfl) (allT_cons ?_ allT_nil)
     refine opT_S (by kernel_rfl) ?_
     refine wD1 (hS := (covS_box 1 rfl covS_nil)) 18 [_, _] [_, _, _, _] Try.call23 (Does.ofList (bheavy_d (listT [_, _]) _ ⟨y.b.k, y.vp, y.vn, y.vc⟩ y.b.v (vRowE8 0 rfl rowT_reads) (vRowE8 1 rfl hyl.out.v) hvn.out hyl.out.lv)) HM146 [0, 2] fun W148 hm147 => ?_
     rw [hm1.out]
     have HM150 := Lib.hid hm147
     clear hm147
     refine wpS_nil ?_
     refine wpT_ready 22 [] (by kernel_rfl) (allT_cons ?_ allT_nil)
     refine opT_S (by kernel_rfl) ?_
     refine wD1 (hS := (covS_box 2 rfl covS_nil)) 22 [_, _, _] [_, _, _, _] Try.call24 (heavy_d (rowT elemR _ _) _ _ rowOwnE (Nat.le_of_ble_eq_true rfl)) HM150 [2] fun W152 hm151 => ?_
     rw [hm2.out]
     have HM154 := Lib.hid hm151
     clear hm151
     refine wpS_nil ?_
     refine wpT_takeS (i := 23) (by kernel_rfl) (by kernel_rfl) ?_
     refine wS [23] ?_
     refine wpS_nil ?_
     refine wpT_takeS (i := 24) (by kernel_rfl) (by kernel_rfl) ?_
     refine wS [24] ?_
     refine wpS_nil ?_
     refine wpT_takeS (i := 25) (by kernel_rfl) (by kernel_rfl) ?_
     refine wS [25] ?_
     refine wpS_nil ?_
     refine wpT_end (by kernel_rfl) ?_
     refine then_normal ?_
     refine ⟨by kernel_rfl, ?_⟩
     exact ⟨rfl, (Mem.only (M := [_, _]) HM154.out [3, 2] rfl)⟩
   rintro vs W' ⟨e37, hm⟩
   simp only [putAll, List.map_cons, List.map_nil, Act.put, List.setIfInBounds_toArray, List.set_cons_succ, List.set_cons_zero]
   rw [e37]
   clear e37
   have HM155 := Lib.hid hm
   clear hm
   refine then_normal (wp_cond_false rfl (wp_skip (block_normal (then_normal (wQ ?_)))))
   refine ⟨by kernel_rfl, ?_⟩
   refine ⟨l.length - (k + 1), by omega, k + 1, rfl, rfl, hk1, ?_, (Mem.only (M := [_]) HM155.out [1] rfl)⟩
   exact litC_next hf.out hy.out h1.out hgd.out
 ·have hge : Hid (l.length ≤ k) := Lib.hid (by have : ¬ (k : Int) < ((l.length : Nat) : Int) := (by simpa using h2); omega)
  clear h2
  refine wp_exit ?_
  refine then_exit (then_exit (block_exit ?_))
  refine then_normal (wp_seq (wQ ?_))
  refine wp_ret (bodyPost_ret (results_tmp rfl _ _ _) rfl ?_)
  rw [litC_end hf.out hge.out]
  exact does_ret (Mem.only (M := [_]) HM1.out [0] rfl) rfl rfl
end Go.Proofs.Ythaabnlhhfnalaa
