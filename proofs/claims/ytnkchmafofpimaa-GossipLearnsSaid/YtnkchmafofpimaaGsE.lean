/- GossipLearns. -/
import Derived.Test.YtnkchmafofpimaaGsY
import Derived.Test.YtnkchmafofpimaaGsL
namespace Go.Proofs.Ytnkchmafofpimaa
open Go Go.RowKit Go.BigFrame

structure LearnI (q : Int) (T : Tl) (wr : Rg) (any : Bool) : Prop where
  self : T.self = 0
  own : T.h 0 = false
  h : T.h q.toNat = any
  k : T.k q.toNat = wr
  no : any = false → wr = noR
theorem learn_new (q : Int) : LearnI q (newT 0) noR false := ⟨rfl, rfl, rfl, rfl, fun _ => rfl⟩
theorem learn_step {q : Int} {T : Tl} {wr : Rg} {any : Bool} (hq : 1 ≤ q ∧ q < 8) (h : LearnI q T wr any) {f : Int} {r : Rg} (hf : f = q) (hm : mayR r = true) : LearnI q (heardT T f r) (joinR wr r) true := by
  subst hf
  have hb : hearB T.self f r = true := hearB_iff.2 ⟨by omega, by rw [h.self]; omega, hm⟩
  unfold heardT
  rw [if_pos hb]
  refine ⟨h.self, ?_, if_pos rfl, ?_, fun e => by cases e⟩
  · show upd T.h f.toNat true 0 = false
    exact (if_neg (by omega)).trans h.own
  · show upd T.k f.toNat (joinR (T.k f.toNat) r) f.toNat = _
    rw [h.k]
    exact if_pos rfl
theorem learn_skip {q : Int} {T : Tl} {wr : Rg} {any : Bool} (hq : 1 ≤ q ∧ q < 8) (h : LearnI q T wr any) {f : Int} {r : Rg} (hf : ¬ (f = q ∧ mayR r = true)) : LearnI q (heardT T f r) wr any := by
  unfold heardT
  by_cases hb : hearB T.self f r = true
  · rw [if_pos hb]
    have h1 := hearB_iff.1 hb
    rw [h.self] at h1
    have hne : f ≠ q := fun e => hf ⟨e, h1.2.2⟩
    refine ⟨h.self, ?_, ?_, ?_, h.no⟩
    · show upd T.h f.toNat true 0 = false
      exact (if_neg (by omega)).trans h.own
    · show upd T.h f.toNat true q.toNat = any
      exact (if_neg (by omega)).trans h.h
    · show upd T.k f.toNat _ q.toNat = wr
      exact (if_neg (by omega)).trans h.k
  · rw [if_neg hb]
    exact h
theorem learn_b {q : Int} {T : Tl} {wr : Rg} {any : Bool} (hq : 1 ≤ q ∧ q < 8) (h : LearnI q T wr any) : knowsB T q = any ∧ knowsB T 0 = false ∧ sameR (knowsR T q) wr = true := by
  have h1 : knowsB T q = any := by
    unfold knowsB
    rw [show nodeE q = true from decide_eq_true (by omega), h.h]
    rfl
  refine ⟨h1, ?_, ?_⟩
  · unfold knowsB
    rw [show (0 : Int).toNat = 0 from rfl, h.own, Bool.and_false]
  · unfold knowsR
    rw [h1]
    cases any
    · rw [if_neg (by simp), h.no rfl]
      decide +kernel
    · rw [if_pos rfl, h.k]
      exact sameR_iff.2 (eqR_self _)
theorem know0 {T : Tl} (h : knowsB T 0 = false) : knowsR T 0 = noR := if_neg (by rw [h]; exact Bool.false_ne_true)
theorem callg_len {w : World} {y : CallG} (h : CallGQ w y) : y.r.p.2.2.length = y.n := by
  obtain ⟨⟨_, p, c, e, _⟩, _⟩ := h
  exact (Value.slice.inj e).2.1.symm
set_option maxHeartbeats 4000000 in
set_option maxRecDepth 100000 in
theorem learns_d (W0 : World) (n : Int) (v : Value) (l : List CallG) (hR' : ∀ W H, (oldT W0).p W H → RowAt elemG W v l) (hQ' : ∀ y ∈ l, CallGQ W0 y) : Does Try.prog 6 #[v, .int .i64 n] [oldT W0] (.bool true) [oldT W0] := by
  intro w H hp
  have HM0 := Lib.hid (mem_refl hp)
  clear hp
  obtain ⟨p, cap, rfl, -⟩ := (HM0.out.row 0 rfl hR').form
  have hR := Lib.hid hR'
  clear hR'
  have hQ := Lib.hid hQ'
  clear hQ'
  go_enter Try.func6, Try.ntmps6
  refine wp_seq ?_
  refine wp_region_N [(0, 1)] (by kernel_rfl) ?_
  refine wpS_this [0] rfl (by kernel_rfl) (by simp only [pickL, nthL, List.cons_append, List.nil_append]; rfl) ?_
  repeat (go_big_quiet_step (fail))
  refine wpQuiet_nil ?_
  refine wpS_nil ?_
  refine then_normal ?_
  refine wp_seq ?_
  refine wp_seq ?_
  cases hl' : litB l
  · have hl := Lib.hid hl'
    clear hl'
    refine wp_region_N [(0, 1), (1, 3), (2, 1)] (by kernel_rfl) ?_
    refine wpS_this [0] rfl (by kernel_rfl) (by simp only [pickL, nthL, List.cons_append, List.nil_append]; rfl) ?_
    repeat (go_big_quiet_step (fail))
    refine wpQuiet_nil ?_
    refine wpS_does1 (i := 1) (d := some 15) (rem := []) (out := [_]) rfl (by rfl) rfl Try.call8 (light_d (oldT W0) _ l hR.out) rfl HM0.out [0] rfl covS_nil rfl rfl ?_
    rintro W2 hm1 -
    rw [hl.out]
    have HM3 := Lib.hid hm1
    clear hm1
    simp only [Act.put, List.setIfInBounds_toArray, List.set_cons_succ, List.set_cons_zero]
    refine wpS_this [2] rfl (by kernel_rfl) (by simp only [pickL, nthL, List.cons_append, List.nil_append]; rfl) ?_
    repeat (go_big_quiet_step (fail))
    refine wpQuiet_nil ?_
    refine wpS_nil ?_
    refine then_normal ?_
    refine wp_cond_true rfl ?_
    refine wp_seq ?_
    refine wp_region_N [(0, 3), (1, 1)] (by kernel_rfl) ?_
    refine wpS_does0 (i := 0) (d := some 17) (rem := [_]) (out := [_]) rfl (by rfl) rfl Try.call9 (awake_d)  HM3.out [] rfl covS_nil rfl rfl ?_
    rintro W5 hm4 -
    have HM6 := Lib.hid hm4
    clear hm4
    simp only [Act.put, List.setIfInBounds_toArray, List.set_cons_succ, List.set_cons_zero]
    refine wpS_this [1] rfl (by kernel_rfl) (by simp only [pickL, nthL, List.cons_append, List.nil_append]; rfl) ?_
    repeat (go_big_quiet_step (fail))
    refine wpQuiet_nil ?_
    refine wpS_nil ?_
    refine then_normal ?_
    refine wp_ret ?_
    refine then_ret ?_
    refine bodyPost_ret (results_tmp rfl _ _ _) rfl ?_
    exact does_ret (Mem.only (M := [_]) HM6.out [0] rfl) rfl rfl
  · have hlit := Lib.hid (lit_of hl')
    have hl := Lib.hid hl'
    clear hl'
    have hl60 : l.length ≤ 60 := hlit.out.1
    refine wp_region_N [(0, 1), (1, 3), (2, 1)] (by kernel_rfl) ?_
    refine wpS_this [0] rfl (by kernel_rfl) (by simp only [pickL, nthL, List.cons_append, List.nil_append]; rfl) ?_
    repeat (go_big_quiet_step (fail))
    refine wpQuiet_nil ?_
    refine wpS_does1 (i := 1) (d := some 15) (rem := []) (out := [_]) rfl (by rfl) rfl Try.call8 (light_d (oldT W0) _ l hR.out) rfl HM0.out [0] rfl covS_nil rfl rfl ?_
    rintro W8 hm7 -
    rw [hl.out]
    have HM9 := Lib.hid hm7
    clear hm7
    simp only [Act.put, List.setIfInBounds_toArray, List.set_cons_succ, List.set_cons_zero]
    refine wpS_this [2] rfl (by kernel_rfl) (by simp only [pickL, nthL, List.cons_append, List.nil_append]; rfl) ?_
    repeat (go_big_quiet_step (fail))
    refine wpQuiet_nil ?_
    refine wpS_nil ?_
    refine then_normal ?_
    refine wp_cond_false rfl ?_
    refine wp_skip ?_
    refine then_normal ?_
    refine wp_seq ?_
    obtain ⟨m, hm7', hmm'⟩ := mod_small 7 (by decide) (by decide) n
    have hm7 : m < 7 := by omega
    clear hm7'
    have hmm := Lib.hid hmm'
    clear hmm'
    refine wp_region_N [(0, 1), (1, 1), (2, 1), (3, 1), (4, 1), (5, 1)] (by kernel_rfl) ?_
    refine wpS_this [0, 1, 2, 3, 4, 5] rfl (by kernel_rfl) (by simp only [pickL, nthL, List.cons_append, List.nil_append]; rfl) ?_
    repeat (go_big_quiet_step (fail))
    refine wpQuiet_nil ?_
    refine wpS_nil ?_
    refine then_normal ?_
    refine wp_seq ?_
    rw [hmm.out, show wrap64 (1 + (m : Int)) = 1 + (m : Int) from by unfold wrap64; omega]
    refine wp_region_N [(0, 3), (1, 1)] (by kernel_rfl) ?_
    refine wpS_doesU1 (i := 0) (d := some 23) (rem := []) rfl (by rfl) rfl Try.call10 (gnew_d 0 rfl (oldT W0)) rfl HM9.out [0] rfl covS_nil (fun _ => rfl) rfl ?_
    rintro u12 W11 hm10 -
    obtain ⟨d, rfl, hm10q⟩ := Mem.someGt hm10
    clear hm10
    have HM13 := Lib.hid hm10q
    clear hm10q
    simp only [Act.put, List.setIfInBounds_toArray, List.set_cons_succ, List.set_cons_zero]
    refine wpS_this [1] rfl (by kernel_rfl) (by simp only [pickL, nthL, List.cons_append, List.nil_append]; rfl) ?_
    repeat (go_big_quiet_step (fail))
    refine wpQuiet_nil ?_
    refine wpS_nil ?_
    refine then_normal ?_
    refine wp_seq ?_
    refine wp_region_N [(0, 3)] (by kernel_rfl) ?_
    refine wpS_alloc (i := 0) (dd := 6) (z := rgV noR (.slice none 0 0)) (cs := (rgC noR (.slice none 0 0)).toArray) rfl (by rfl) rfl (by kernel_rfl) rfl HM13.out covS_nil rfl ?_
    rintro b16 W15 hm14 -
    have HM17 := Lib.hid hm14
    clear hm14
    simp only [Act.put, List.setIfInBounds_toArray, List.set_cons_succ, List.set_cons_zero]
    refine wpS_nil ?_
    refine then_normal ?_
    refine wp_seq ?_
    refine wp_region_N [(0, 1)] (by kernel_rfl) ?_
    refine wpS_this [0] rfl (by kernel_rfl) (by simp only [pickL, nthL, List.cons_append, List.nil_append]; rfl) ?_
    repeat (go_big_quiet_step (fail))
    refine wpQuiet_nil ?_
    refine wpS_nil ?_
    refine then_normal ?_
    refine wp_seq ?_
    refine wp_seq ?_
    have HN := Lib.hid (Mem.nilRow elemI HM17.out)
    refine wp_region_N [(0, 1), (1, 1), (2, 1)] (by kernel_rfl) ?_
    refine wpS_this [0, 1, 2] rfl (by kernel_rfl) (by simp only [pickL, nthL, List.cons_append, List.nil_append]; rfl) ?_
    repeat (go_big_quiet_step (fail))
    refine wpQuiet_nil ?_
    refine wpS_nil ?_
    refine then_normal ?_
    refine wp_block ?_
    refine wp_loop_F [7, 9, 26, 27, 28, 29, 30, 31, 32, 33, 34, 35, 36, 37, 38, 39, 40, 41, 42, 43, 44, 45, 46, 47, 48, 49] (fun n vs W' => ∃ (k : Nat) (T : Tl) (wr : Rg) (pw : Option Addr) (cw : Nat) (any : Bool), n = l.length - k ∧ vs 26 = .int .i64 (k : Int) ∧ vs 7 = .bool any ∧ k ≤ l.length ∧ LearnI (1 + (m : Int)) T wr any ∧ wr.p.2.2.length ≤ 1000 ∧ Mem [gtT d T (oldT W0), boxT b16 (.cells (rgC (wr) (.slice pw wr.p.2.2.length cw)).toArray 37 (0, 0)), rowT elemI (.slice pw wr.p.2.2.length cw) wr.p.2.2] H w W') (n0 := l.length) ?_ ?_
    · exact ⟨0, newT 0, noR, none, 0, false, rfl, rfl, rfl, Nat.zero_le _, learn_new _, Nat.zero_le _, (Mem.only (M := [_, _, _]) HN.out [2, 1, 0] rfl)⟩
    rintro n vs W' ⟨k, T, wr, pw, cw, any, rfl, e26, e7, hk, hf, lw, hm⟩
    simp only [putAll, List.map_cons, List.map_nil, Act.put, List.setIfInBounds_toArray, List.set_cons_succ, List.set_cons_zero]
    rw [e26, e7]
    clear e26 e7
    have hf := Lib.hid hf
    replace lw := Lib.hid lw
    have HM18 := Lib.hid hm
    clear hm
    refine wp_seq ?_
    refine wp_region_N [(0, 1)] (by kernel_rfl) ?_
    refine wpS_this [0] rfl (by kernel_rfl) (by simp only [pickL, nthL, List.cons_append, List.nil_append]; rfl) ?_
    repeat (go_big_quiet_step (fail))
    refine wpQuiet_nil ?_
    refine wpS_nil ?_
    refine then_normal ?_
    refine wp_seq ?_
    refine wp_cond_split rfl (fun h19 => ?_) (fun h19 => ?_)
    · have hk1 : k + 1 ≤ l.length := by have : (k : Int) < ((l.length : Nat) : Int) := (by simpa using h19); omega
      clear h19
      obtain ⟨y, hy'⟩ : ∃ y, l[k]? = some y := ⟨_, List.getElem?_eq_getElem (hk1)⟩
      have hy := Lib.hid hy'
      clear hy'
      have hyq := Lib.hid (hQ.out y (List.mem_of_getElem? hy.out))
      have ly : Hid (y.r.p.2.2.length ≤ 1000) := Lib.hid (by have := (hlit.out.2 y (List.mem_of_getElem? hy.out)).1; rw [callg_len hyq.out]; omega)
      refine wp_skip ?_
      refine then_normal ?_
      refine wp_seq ?_
      refine wp_block ?_
      refine wp_seq ?_
      refine wp_region_N [(0, 1), (1, 1), (2, 3), (3, 3)] (by kernel_rfl) ?_
      refine wpS_index (E := elemG) (i := 0) (d := some 28) rfl (by rfl) rfl rfl rfl (HM18.out.row 0 rfl (gt_rowE hR.out)) (hy.out) rfl ?_
      intro eb20 eo21 hc22
      simp only [Act.put, List.setIfInBounds_toArray, List.set_cons_succ, List.set_cons_zero]
      refine wpS_loadA (i := 1) (d := some 29) (cells := CallG.enc y) rfl (by rfl) rfl rfl hc22 Try.underlying40 rfl (by kernel_rfl) rfl ?_
      simp only [Act.put, List.setIfInBounds_toArray, List.set_cons_succ, List.set_cons_zero]
      refine wpS_alloc (i := 2) (dd := 9) (z := .agg (default : CallG).enc.toArray) (cs := (default : CallG).enc.toArray) rfl (by rfl) rfl (by kernel_rfl) rfl HM18.out covS_nil rfl ?_
      rintro b25 W24 hm23 -
      have HM26 := Lib.hid hm23
      clear hm23
      simp only [Act.put, List.setIfInBounds_toArray, List.set_cons_succ, List.set_cons_zero]
      refine wpS_storeA (i := 3) (L2 := [_, _, _]) (cs' := CallG.enc y) rfl (by rfl) rfl rfl rfl (by kernel_rfl) (show (CallG.enc y).all Value.oneCell' = true by kernel_rfl) HM26.out 0 rfl rfl (by kernel_rfl) (by kernel_rfl) covS_nil rfl ?_
      rintro W28 hm27 -
      have HM29 := Lib.hid hm27
      clear hm27
      refine wpS_nil ?_
      refine then_normal ?_
      refine wp_seq ?_
      refine wp_region_N [(0, 1), (1, 1), (2, 1), (3, 1), (4, 1), (5, 3)] (by kernel_rfl) ?_
      refine wpS_this [0, 1] rfl (by kernel_rfl) (by simp only [pickL, nthL, List.cons_append, List.nil_append]; rfl) ?_
      repeat (go_big_quiet_step (fail))
      refine wpQuiet_nil ?_
      refine wpS_load1 (i := 2) (d := some 32) (u := .int .i64 y.frm) rfl (by rfl) rfl rfl (HM29.out.sub1 0 rfl rfl) Try.underlying3 rfl rfl ?_
      simp only [Act.put, List.setIfInBounds_toArray, List.set_cons_succ, List.set_cons_zero]
      refine wpS_this [3] rfl (by kernel_rfl) (by simp only [pickL, nthL, List.cons_append, List.nil_append]; rfl) ?_
      repeat (go_big_quiet_step (fail))
      refine wpQuiet_nil ?_
      refine wpS_loadA (i := 4) (d := some 34) (cells := rgC y.r (.slice y.p y.n y.c)) rfl (by rfl) rfl rfl (HM29.out.sub 0 rfl (fun _ _ h => sub_app [_, _] _ [_, _] h)) Try.underlying37 rfl (by kernel_rfl) rfl ?_
      simp only [Act.put, List.setIfInBounds_toArray, List.set_cons_succ, List.set_cons_zero]
      refine wpS_does3 (i := 5) (d := some 35) (rem := [_, _, _]) (out := [_, _, _, _]) rfl (by rfl) rfl Try.call14 (gheard_d d T (oldT W0) y.frm _ y.r (srcOld hyq.out.1) ly.out) rfl rfl rfl HM29.out [1] rfl covS_nil rfl rfl ?_
      rintro W31 hm30 -
      have HM32 := Lib.hid hm30
      clear hm30
      simp only [Act.put, List.setIfInBounds_toArray, List.set_cons_succ, List.set_cons_zero]
      refine wpS_nil ?_
      refine then_normal ?_
      refine wp_seq ?_
      rcases (show ¬ y.frm = (1 + (m : Int)) ∨ (y.frm = (1 + (m : Int)) ∧ mayR y.r = false) ∨ (y.frm = (1 + (m : Int)) ∧ mayR y.r = true) from by by_cases k1 : y.frm = (1 + (m : Int)) <;> cases mayR y.r <;> simp [k1]) with h1 | ⟨h1, h2⟩ | ⟨h1, h2⟩
      · have ge : (y.frm == (1 + (m : Int))) = false := beq_eq_false_iff_ne.2 h1
        have hT : Hid (LearnI (1 + (m : Int)) (heardT T y.frm y.r) wr any) := Lib.hid (learn_skip ⟨by omega, by omega⟩ hf.out (fun q => h1 q.1))
        clear h1
        refine wp_region_N [(0, 1), (1, 1), (2, 1), (3, 1), (4, 1), (5, 1), (6, 1), (7, 3), (8, 1)] (by kernel_rfl) ?_
        refine wpS_this [0] rfl (by kernel_rfl) (by simp only [pickL, nthL, List.cons_append, List.nil_append]; rfl) ?_
        repeat (go_big_quiet_step (fail))
        refine wpQuiet_nil ?_
        refine wpS_load1 (i := 1) (d := some 37) (u := .int .i64 y.frm) rfl (by rfl) rfl rfl (HM32.out.sub1 1 rfl rfl) Try.underlying3 rfl rfl ?_
        simp only [Act.put, List.setIfInBounds_toArray, List.set_cons_succ, List.set_cons_zero]
        refine wpS_this [2, 3, 4, 5] rfl (by kernel_rfl) (by simp only [pickL, nthL, List.cons_append, List.nil_append]; rfl) ?_
        repeat (go_big_quiet_step (fail))
        refine wpQuiet_nil ?_
        refine wpS_skip (i := 6) (d := some 42) rfl (by rfl) rfl ?_
        simp only [Act.put, List.setIfInBounds_toArray, List.set_cons_succ, List.set_cons_zero]
        refine wpS_skip (i := 7) (d := some 43) rfl (by rfl) rfl ?_
        simp only [Act.put, List.setIfInBounds_toArray, List.set_cons_succ, List.set_cons_zero]
        refine wpS_this [8] rfl (by kernel_rfl) (by simp only [pickL, nthL, List.cons_append, List.nil_append]; rfl) ?_
        repeat (go_big_quiet_step (fail))
        refine wpQuiet_nil ?_
        refine wpS_nil ?_
        refine then_normal ?_
        refine wp_cond_false rfl ?_
        refine wp_skip ?_
        refine block_normal ?_
        refine then_normal ?_
        refine wp_region_N [(0, 1), (1, 1)] (by kernel_rfl) ?_
        refine wpS_this [0, 1] rfl (by kernel_rfl) (by simp only [pickL, nthL, List.cons_append, List.nil_append]; rfl) ?_
        repeat (go_big_quiet_step (fail))
        refine wpQuiet_nil ?_
        refine wpS_nil ?_
        refine then_normal ?_
        refine ⟨by kernel_rfl, ?_⟩
        exact ⟨l.length - (k + 1), by omega, k + 1, heardT T y.frm y.r, wr, pw, cw, any, rfl, rfl, rfl, hk1, hT.out, lw.out, (Mem.only (M := [_, _, _]) HM32.out [0, 1, 1] rfl)⟩
      · have ge : (y.frm == (1 + (m : Int))) = true := beq_iff_eq.2 h1
        have gm := h2
        have hT : Hid (LearnI (1 + (m : Int)) (heardT T y.frm y.r) wr any) := Lib.hid (learn_skip ⟨by omega, by omega⟩ hf.out (fun q => by rw [h2] at q; cases q.2))
        clear h1 h2
        refine wp_region_N [(0, 1), (1, 1), (2, 1), (3, 1), (4, 1), (5, 1), (6, 1), (7, 3), (8, 1)] (by kernel_rfl) ?_
        refine wpS_this [0] rfl (by kernel_rfl) (by simp only [pickL, nthL, List.cons_append, List.nil_append]; rfl) ?_
        repeat (go_big_quiet_step (fail))
        refine wpQuiet_nil ?_
        refine wpS_load1 (i := 1) (d := some 37) (u := .int .i64 y.frm) rfl (by rfl) rfl rfl (HM32.out.sub1 1 rfl rfl) Try.underlying3 rfl rfl ?_
        simp only [Act.put, List.setIfInBounds_toArray, List.set_cons_succ, List.set_cons_zero]
        refine wpS_this [2, 3, 4, 5] rfl (by kernel_rfl) (by simp only [pickL, nthL, List.cons_append, List.nil_append]; rfl) ?_
        repeat (go_big_quiet_step (fail))
        refine wpQuiet_nil ?_
        refine wpS_loadA (i := 6) (d := some 42) (cells := rgC y.r (.slice y.p y.n y.c)) rfl (by rfl) rfl rfl (HM32.out.sub 1 rfl (fun _ _ h => sub_app [_, _] _ [_, _] h)) Try.underlying37 rfl (by kernel_rfl) rfl ?_
        simp only [Act.put, List.setIfInBounds_toArray, List.set_cons_succ, List.set_cons_zero]
        refine wpS_does1 (i := 7) (d := some 43) (rem := [_, _, _]) (out := [_, _, _, _]) rfl (by rfl) rfl Try.call20 (gmay_d _ _ y.r (gt_src (srcOld hyq.out.1)) ly.out) rfl HM32.out [0] rfl covS_nil rfl rfl ?_
        rintro W34 hm33 -
        have HM35 := Lib.hid hm33
        clear hm33
        simp only [Act.put, List.setIfInBounds_toArray, List.set_cons_succ, List.set_cons_zero]
        refine wpS_this [8] rfl (by kernel_rfl) (by simp only [pickL, nthL, List.cons_append, List.nil_append]; rfl) ?_
        repeat (go_big_quiet_step (fail))
        refine wpQuiet_nil ?_
        refine wpS_nil ?_
        refine then_normal ?_
        refine wp_cond_false rfl ?_
        refine wp_skip ?_
        refine block_normal ?_
        refine then_normal ?_
        refine wp_region_N [(0, 1), (1, 1)] (by kernel_rfl) ?_
        refine wpS_this [0, 1] rfl (by kernel_rfl) (by simp only [pickL, nthL, List.cons_append, List.nil_append]; rfl) ?_
        repeat (go_big_quiet_step (fail))
        refine wpQuiet_nil ?_
        refine wpS_nil ?_
        refine then_normal ?_
        refine ⟨by kernel_rfl, ?_⟩
        exact ⟨l.length - (k + 1), by omega, k + 1, heardT T y.frm y.r, wr, pw, cw, any, rfl, rfl, rfl, hk1, hT.out, lw.out, (Mem.only (M := [_, _, _]) HM35.out [0, 1, 1] rfl)⟩
      · have ge : (y.frm == (1 + (m : Int))) = true := beq_iff_eq.2 h1
        have gm := h2
        obtain ⟨j, hj'⟩ : ∃ j, joinR wr y.r = j := ⟨_, rfl⟩
        have hT : Hid (LearnI (1 + (m : Int)) (heardT T y.frm y.r) j true) := Lib.hid (by rw [← hj']; exact learn_step ⟨by omega, by omega⟩ hf.out h1 h2)
        have lj : Hid (j.p.2.2.length ≤ 1000) := Lib.hid (by rw [← hj']; exact joinR_len lw.out ly.out)
        have hj := Lib.hid hj'
        clear hj' h1 h2
        refine wp_region_N [(0, 1), (1, 1), (2, 1), (3, 1), (4, 1), (5, 1), (6, 1), (7, 3), (8, 1)] (by kernel_rfl) ?_
        refine wpS_this [0] rfl (by kernel_rfl) (by simp only [pickL, nthL, List.cons_append, List.nil_append]; rfl) ?_
        repeat (go_big_quiet_step (fail))
        refine wpQuiet_nil ?_
        refine wpS_load1 (i := 1) (d := some 37) (u := .int .i64 y.frm) rfl (by rfl) rfl rfl (HM32.out.sub1 1 rfl rfl) Try.underlying3 rfl rfl ?_
        simp only [Act.put, List.setIfInBounds_toArray, List.set_cons_succ, List.set_cons_zero]
        refine wpS_this [2, 3, 4, 5] rfl (by kernel_rfl) (by simp only [pickL, nthL, List.cons_append, List.nil_append]; rfl) ?_
        repeat (go_big_quiet_step (fail))
        refine wpQuiet_nil ?_
        refine wpS_loadA (i := 6) (d := some 42) (cells := rgC y.r (.slice y.p y.n y.c)) rfl (by rfl) rfl rfl (HM32.out.sub 1 rfl (fun _ _ h => sub_app [_, _] _ [_, _] h)) Try.underlying37 rfl (by kernel_rfl) rfl ?_
        simp only [Act.put, List.setIfInBounds_toArray, List.set_cons_succ, List.set_cons_zero]
        refine wpS_does1 (i := 7) (d := some 43) (rem := [_, _, _]) (out := [_, _, _, _]) rfl (by rfl) rfl Try.call20 (gmay_d _ _ y.r (gt_src (srcOld hyq.out.1)) ly.out) rfl HM32.out [0] rfl covS_nil rfl rfl ?_
        rintro W37 hm36 -
        have HM38 := Lib.hid hm36
        clear hm36
        simp only [Act.put, List.setIfInBounds_toArray, List.set_cons_succ, List.set_cons_zero]
        refine wpS_this [8] rfl (by kernel_rfl) (by simp only [pickL, nthL, List.cons_append, List.nil_append]; rfl) ?_
        repeat (go_big_quiet_step (fail))
        refine wpQuiet_nil ?_
        refine wpS_nil ?_
        refine then_normal ?_
        refine wp_cond_true rfl ?_
        refine wp_region_N [(0, 1), (1, 1), (2, 1), (3, 3), (4, 3), (5, 1)] (by kernel_rfl) ?_
        refine wpS_loadA (i := 0) (d := some 45) (cells := rgC (wr) (.slice pw wr.p.2.2.length cw)) rfl (by rfl) rfl rfl (HM38.out.sub 2 rfl (fun k u h => by rw [Nat.zero_add]; exact h)) Try.underlying37 rfl (by kernel_rfl) rfl ?_
        simp only [Act.put, List.setIfInBounds_toArray, List.set_cons_succ, List.set_cons_zero]
        refine wpS_this [1] rfl (by kernel_rfl) (by simp only [pickL, nthL, List.cons_append, List.nil_append]; rfl) ?_
        repeat (go_big_quiet_step (fail))
        refine wpQuiet_nil ?_
        refine wpS_loadA (i := 2) (d := some 47) (cells := rgC y.r (.slice y.p y.n y.c)) rfl (by rfl) rfl rfl (HM38.out.sub 1 rfl (fun _ _ h => sub_app [_, _] _ [_, _] h)) Try.underlying37 rfl (by kernel_rfl) rfl ?_
        simp only [Act.put, List.setIfInBounds_toArray, List.set_cons_succ, List.set_cons_zero]
        refine wpS_doesU2 (i := 3) (d := some 48) (rem := [_, _]) rfl (by rfl) rfl Try.call22 (DoesU.ofList (gjoin_d (listT [_, _]) _ wr (srcL 0 rfl rowT_reads) lw.out _ y.r (srcL 1 rfl (gt_src (srcOld hyq.out.1))) ly.out j hj.out)) rfl rfl HM38.out [3, 0] rfl covS_nil (fun _ => rfl) rfl ?_
        rintro u41 W40 hm39 -
        obtain ⟨pj, cj, rfl, hm39q⟩ := Mem.ring rfl hm39
        clear hm39
        have HM42 := Lib.hid hm39q
        clear hm39q
        simp only [Act.put, List.setIfInBounds_toArray, List.set_cons_succ, List.set_cons_zero]
        refine wpS_storeA (i := 4) (L2 := [_, _, _, _]) (cs' := rgC (j) (.slice pj j.p.2.2.length cj)) rfl (by rfl) rfl rfl rfl (by kernel_rfl) (rgC_one _ _ _) HM42.out 4 rfl rfl (by kernel_rfl) (by kernel_rfl) covS_nil rfl ?_
        rintro W44 hm43 -
        have HM45 := Lib.hid hm43
        clear hm43
        refine wpS_this [5] rfl (by kernel_rfl) (by simp only [pickL, nthL, List.cons_append, List.nil_append]; rfl) ?_
        repeat (go_big_quiet_step (fail))
        refine wpQuiet_nil ?_
        refine wpS_nil ?_
        refine block_normal ?_
        refine then_normal ?_
        refine wp_region_N [(0, 1), (1, 1)] (by kernel_rfl) ?_
        refine wpS_this [0, 1] rfl (by kernel_rfl) (by simp only [pickL, nthL, List.cons_append, List.nil_append]; rfl) ?_
        repeat (go_big_quiet_step (fail))
        refine wpQuiet_nil ?_
        refine wpS_nil ?_
        refine then_normal ?_
        refine ⟨by kernel_rfl, ?_⟩
        exact ⟨l.length - (k + 1), by omega, k + 1, heardT T y.frm y.r, j, pj, cj, true, rfl, rfl, rfl, hk1, hT.out, lj.out, (Mem.only (M := [_, _, _]) HM45.out [3, 0, 0] rfl)⟩
    · have hge : Hid (l.length ≤ k) := Lib.hid (by have : ¬ (k : Int) < ((l.length : Nat) : Int) := (by simpa using h19); omega)
      clear h19
      refine wp_exit ?_
      refine then_exit (then_exit (block_exit ?_))
      refine then_normal ?_
      refine wp_seq ?_
      obtain ⟨z, ll, hz', HG'⟩ := Mem.gt (Mem.only (M := [_, _, _]) HM18.out [0, 0, 0] rfl)
      have HG := Lib.hid HG'
      clear HG'
      have hz := Lib.hid hz'
      clear hz'
      obtain ⟨hkb', hkb0', hsm'⟩ := learn_b (q := (1 + (m : Int))) ⟨by omega, by omega⟩ hf.out
      have hk0 := Lib.hid (know0 hkb0')
      obtain ⟨kr, hkr'⟩ : ∃ x, knowsR T (1 + (m : Int)) = x := ⟨_, rfl⟩
      have lkr' := knowsR_len hz.out (1 + (m : Int))
      rw [hkr'] at lkr' hsm'
      have lkr := Lib.hid lkr'
      clear lkr'
      have hkb := Lib.hid hkb'
      clear hkb'
      have hkb0 := Lib.hid hkb0'
      clear hkb0'
      have hsm := Lib.hid hsm'
      clear hsm'
      have hkr := Lib.hid hkr'
      clear hkr'
      refine wp_region_N [(0, 1), (1, 1), (2, 3), (3, 1), (4, 1), (5, 1), (6, 3), (7, 3), (8, 1)] (by kernel_rfl) ?_
      refine wpS_this [0, 1] rfl (by kernel_rfl) (by simp only [pickL, nthL, List.cons_append, List.nil_append]; rfl) ?_
      repeat (go_big_quiet_step (fail))
      refine wpQuiet_nil ?_
      refine wpS_doesU2 (i := 2) (d := some 53) (rem := [_, _]) rfl (by rfl) rfl Try.call16 (gknows_d d T z (listT (oldT W0 :: ll)) hz.out (1 + (m : Int))) rfl rfl HG.out [0, 0] rfl covS_nil (fun _ => rfl) rfl ?_
      rintro u48 W47 hm46 -
      obtain ⟨pk, ck, rfl, hm46q⟩ := Mem.known hkr.out hkb.out hm46
      clear hm46
      have HM49 := Lib.hid hm46q
      clear hm46q
      simp only [Act.put, List.setIfInBounds_toArray, List.set_cons_succ, List.set_cons_zero]
      refine wpS_this [3, 4, 5] rfl (by kernel_rfl) (by simp only [pickL, nthL, List.cons_append, List.nil_append]; rfl) ?_
      repeat (go_big_quiet_step (fail))
      refine wpQuiet_nil ?_
      refine wpS_alloc (i := 6) (dd := 10) (z := rgV noR (.slice none 0 0)) (cs := (rgC noR (.slice none 0 0)).toArray) rfl (by rfl) rfl (by kernel_rfl) rfl HM49.out covS_nil rfl ?_
      rintro b52 W51 hm50 -
      have HM53 := Lib.hid hm50
      clear hm50
      simp only [Act.put, List.setIfInBounds_toArray, List.set_cons_succ, List.set_cons_zero]
      refine wpS_storeA (i := 7) (L2 := [_, _, _, _, _]) (cs' := rgC (kr) (.slice pk kr.p.2.2.length ck)) rfl (by rfl) rfl rfl rfl (by kernel_rfl) (rgC_one _ _ _) HM53.out 0 rfl rfl (by kernel_rfl) (by kernel_rfl) covS_nil rfl ?_
      rintro W55 hm54 -
      have HM56 := Lib.hid hm54
      clear hm54
      refine wpS_this [8] rfl (by kernel_rfl) (by simp only [pickL, nthL, List.cons_append, List.nil_append]; rfl) ?_
      repeat (go_big_quiet_step (fail))
      refine wpQuiet_nil ?_
      refine wpS_nil ?_
      refine then_normal ?_
      refine wp_seq ?_
      refine wp_region_N [(0, 1), (1, 3), (2, 1), (3, 1), (4, 1), (5, 3), (6, 3), (7, 1)] (by kernel_rfl) ?_
      refine wpS_this [0] rfl (by kernel_rfl) (by simp only [pickL, nthL, List.cons_append, List.nil_append]; rfl) ?_
      repeat (go_big_quiet_step (fail))
      refine wpQuiet_nil ?_
      refine wpS_doesU2 (i := 1) (d := some 58) (rem := [_, _, _, _]) rfl (by rfl) rfl Try.call16 (gknows_d d T z (listT (oldT W0 :: ll)) hz.out 0) rfl rfl HM56.out [2, 2] rfl covS_nil (fun _ => rfl) rfl ?_
      rintro u59 W58 hm57 -
      obtain ⟨p0, c0, rfl, hm57q⟩ := Mem.known hk0.out hkb0.out hm57
      clear hm57
      have HM60 := Lib.hid hm57q
      clear hm57q
      simp only [Act.put, List.setIfInBounds_toArray, List.set_cons_succ, List.set_cons_zero]
      refine wpS_this [2, 3, 4] rfl (by kernel_rfl) (by simp only [pickL, nthL, List.cons_append, List.nil_append]; rfl) ?_
      repeat (go_big_quiet_step (fail))
      refine wpQuiet_nil ?_
      refine wpS_alloc (i := 5) (dd := 12) (z := rgV noR (.slice none 0 0)) (cs := (rgC noR (.slice none 0 0)).toArray) rfl (by rfl) rfl (by kernel_rfl) rfl HM60.out covS_nil rfl ?_
      rintro b63 W62 hm61 -
      have HM64 := Lib.hid hm61
      clear hm61
      simp only [Act.put, List.setIfInBounds_toArray, List.set_cons_succ, List.set_cons_zero]
      refine wpS_storeA (i := 6) (L2 := [_, _, _, _, _, _, _]) (cs' := rgC (noR) (.slice p0 noR.p.2.2.length c0)) rfl (by rfl) rfl rfl rfl (by kernel_rfl) (rgC_one _ _ _) HM64.out 0 rfl rfl (by kernel_rfl) (by kernel_rfl) covS_nil rfl ?_
      rintro W66 hm65 -
      have HM67 := Lib.hid hm65
      clear hm65
      refine wpS_this [7] rfl (by kernel_rfl) (by simp only [pickL, nthL, List.cons_append, List.nil_append]; rfl) ?_
      repeat (go_big_quiet_step (fail))
      refine wpQuiet_nil ?_
      refine wpS_nil ?_
      refine then_normal ?_
      refine wp_seq ?_
      have gaa : (any == any) = true := beq_self_eq_true _
      refine wp_region_N [(0, 1), (1, 1), (2, 1), (3, 1), (4, 1), (5, 1), (6, 3), (7, 1), (8, 1), (9, 1), (10, 1), (11, 1), (12, 1), (13, 3), (14, 1), (15, 1)] (by kernel_rfl) ?_
      refine wpS_this [0, 1, 2, 3] rfl (by kernel_rfl) (by simp only [pickL, nthL, List.cons_append, List.nil_append]; rfl) ?_
      repeat (go_big_quiet_step (fail))
      refine wpQuiet_nil ?_
      refine wpS_loadA (i := 4) (d := some 65) (cells := rgC (kr) (.slice pk kr.p.2.2.length ck)) rfl (by rfl) rfl rfl (HM67.out.sub 4 rfl (fun k u h => by rw [Nat.zero_add]; exact h)) Try.underlying37 rfl (by kernel_rfl) rfl ?_
      simp only [Act.put, List.setIfInBounds_toArray, List.set_cons_succ, List.set_cons_zero]
      refine wpS_loadA (i := 5) (d := some 66) (cells := rgC (wr) (.slice pw wr.p.2.2.length cw)) rfl (by rfl) rfl rfl (HM67.out.sub 6 rfl (fun k u h => by rw [Nat.zero_add]; exact h)) Try.underlying37 rfl (by kernel_rfl) rfl ?_
      simp only [Act.put, List.setIfInBounds_toArray, List.set_cons_succ, List.set_cons_zero]
      refine wpS_does2 (i := 6) (d := some 67) (rem := [_, _, _, _, _, _]) (out := [_, _, _, _, _, _, _, _]) rfl (by rfl) rfl Try.call18 (Does.ofList (gsame_d (listT [_, _]) _ kr (srcL 0 rfl rowT_reads) lkr.out _ wr (srcL 1 rfl rowT_reads) lw.out)) rfl rfl HM67.out [5, 6] rfl covS_nil rfl rfl ?_
      rintro W69 hm68 -
      rw [hsm.out]
      have HM70 := Lib.hid hm68
      clear hm68
      simp only [Act.put, List.setIfInBounds_toArray, List.set_cons_succ, List.set_cons_zero]
      refine wpS_this [7, 8, 9, 10, 11, 12] rfl (by kernel_rfl) (by simp only [pickL, nthL, List.cons_append, List.nil_append]; rfl) ?_
      repeat (go_big_quiet_step (fail))
      refine wpQuiet_nil ?_
      refine wpS_does0 (i := 13) (d := some 74) (rem := [_, _, _, _, _, _, _, _]) (out := [_, _, _, _, _, _, _, _]) rfl (by rfl) rfl Try.call9 (awake_d)  HM70.out [] rfl covS_nil rfl rfl ?_
      rintro W72 hm71 -
      have HM73 := Lib.hid hm71
      clear hm71
      simp only [Act.put, List.setIfInBounds_toArray, List.set_cons_succ, List.set_cons_zero]
      refine wpS_this [14, 15] rfl (by kernel_rfl) (by simp only [pickL, nthL, List.cons_append, List.nil_append]; rfl) ?_
      repeat (go_big_quiet_step (fail))
      refine wpQuiet_nil ?_
      refine wpS_nil ?_
      refine then_normal ?_
      refine wp_ret ?_
      refine bodyPost_ret (results_tmp rfl _ _ _) rfl ?_
      exact does_ret (Mem.only (M := [_]) (Mem.outOf (Mem.only (M := [_]) HM73.out [5] rfl)) [0] rfl) rfl rfl

end Go.Proofs.Ytnkchmafofpimaa
