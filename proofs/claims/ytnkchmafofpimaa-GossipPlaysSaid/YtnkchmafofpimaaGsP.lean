/- GossipPlays. -/
import Derived.Test.YtnkchmafofpimaaGsN
import Derived.Test.YtnkchmafofpimaaGsG
import Derived.Test.YtnkchmafofpimaaGsT
import Derived.Test.YtnkchmafofpimaaGsU
import Derived.Test.YtnkchmafofpimaaGsV
namespace Go.Proofs.Ytnkchmafofpimaa
open Go Go.RowKit Go.BigFrame

theorem Mem.someTell {B : At} {L : List At} {H0 : Nat → Prop} {w W : World} {u : Value} {S : Tl} (h : Mem (someTell u S B :: L) H0 w W) : ∃ d, u = .pointer (some ⟨d, 0, none⟩) ∧ Mem (tellT d S B :: L) H0 w W := by
  obtain ⟨x, h⟩ := Mem.ex h
  obtain ⟨hu, h⟩ := Mem.pr h
  exact ⟨x, hu, h⟩
theorem callp_len {w : World} {y : CallG} (h : CallGQ w y) : y.ps.length = y.pn := by
  obtain ⟨_, ⟨_, p, c, e, _⟩, _⟩ := h
  exact (Value.slice.inj e).2.1.symm
theorem callg_len' {w : World} {y : CallG} (h : CallGQ w y) : y.r.p.2.2.length = y.n := by
  obtain ⟨⟨_, p, c, e, _⟩, _⟩ := h
  exact (Value.slice.inj e).2.1.symm
/-- What is told of n, beside what the reference knows. -/
theorem plays_b {T F : Tl} (h : SameT T F) (n : Int) : (nodeE n = true → knowsB T n = F.h n.toNat) ∧ (nodeE n = false → knowsB T n = false) ∧ (knowsB T n = true → sameR (knowsR T n) (F.k n.toNat) = true) ∧ (knowsB T n = false → knowsR T n = noR) := by
  refine ⟨fun q => ?_, fun q => ?_, (same_knows h n).2, fun q => ?_⟩
  · unfold knowsB
    rw [q, h.h]
    rfl
  · unfold knowsB
    rw [q]
    rfl
  · unfold knowsR
    rw [if_neg (by rw [q]; exact Bool.false_ne_true)]
theorem same_no' : sameR noR noR = true := by decide +kernel
set_option maxHeartbeats 4000000 in
set_option maxRecDepth 100000 in
theorem plays_d (W0 : World) (self : Int) (v : Value) (l : List CallG) (hR' : ∀ W H, (oldT W0).p W H → RowAt elemG W v l) (hQ' : ∀ y ∈ l, CallGQ W0 y) : Does Try.prog 3 #[.int .i64 self, v] [oldT W0] (.bool true) [oldT W0] := by
  intro w H hp
  have HM0 := Lib.hid (mem_refl hp)
  clear hp
  obtain ⟨p, cap, rfl, -⟩ := (HM0.out.row 0 rfl hR').form
  have hR := Lib.hid hR'
  clear hR'
  have hQ := Lib.hid hQ'
  clear hQ'
  go_enter Try.func3, Try.ntmps3
  refine wp_seq ?_
  refine wp_region_N [(0, 1)] (by kernel_rfl) ?_
  refine wpS_this [0] rfl (by kernel_rfl) (by simp only [pickL, nthL, List.cons_append, List.nil_append]; rfl) ?_
  repeat (go_big_quiet_step (fail))
  refine wpQuiet_nil ?_
  refine wpS_nil ?_
  refine then_normal ?_
  refine wp_seq ?_
  refine wp_seq ?_
  cases hl' : litB l
  · have hl := Lib.hid hl'
    clear hl'
    refine wp_region_N [(0, 1), (1, 3), (2, 1)] (by kernel_rfl) ?_
    refine wpS_this [0] rfl (by kernel_rfl) (by simp only [pickL, nthL, List.cons_append, List.nil_append]; rfl) ?_
    repeat (go_big_quiet_step (fail))
    refine wpQuiet_nil ?_
    refine wpS_does1 (i := 1) (d := some 14) (rem := []) (out := [_]) rfl (by rfl) rfl Try.call8 (light_d (oldT W0) _ l hR.out) rfl HM0.out [0] rfl covS_nil rfl rfl ?_
    rintro W2 hm1 -
    rw [hl.out]
    have HM3 := Lib.hid hm1
    clear hm1
    simp only [Act.put, List.setIfInBounds_toArray, List.set_cons_succ, List.set_cons_zero]
    refine wpS_this [2] rfl (by kernel_rfl) (by simp only [pickL, nthL, List.cons_append, List.nil_append]; rfl) ?_
    repeat (go_big_quiet_step (fail))
    refine wpQuiet_nil ?_
    refine wpS_nil ?_
    refine then_normal ?_
    refine wp_cond_true rfl ?_
    refine wp_seq ?_
    refine wp_region_N [(0, 3), (1, 1)] (by kernel_rfl) ?_
    refine wpS_does0 (i := 0) (d := some 16) (rem := [_]) (out := [_]) rfl (by rfl) rfl Try.call9 (awake_d)  HM3.out [] rfl covS_nil rfl rfl ?_
    rintro W5 hm4 -
    have HM6 := Lib.hid hm4
    clear hm4
    simp only [Act.put, List.setIfInBounds_toArray, List.set_cons_succ, List.set_cons_zero]
    refine wpS_this [1] rfl (by kernel_rfl) (by simp only [pickL, nthL, List.cons_append, List.nil_append]; rfl) ?_
    repeat (go_big_quiet_step (fail))
    refine wpQuiet_nil ?_
    refine wpS_nil ?_
    refine then_normal ?_
    refine wp_ret ?_
    refine then_ret ?_
    refine bodyPost_ret (results_tmp rfl _ _ _) rfl ?_
    exact does_ret (Mem.only (M := [_]) HM6.out [0] rfl) rfl rfl
  · have hlit := Lib.hid (lit_of hl')
    have hl := Lib.hid hl'
    clear hl'
    have hl60 : l.length ≤ 60 := hlit.out.1
    refine wp_region_N [(0, 1), (1, 3), (2, 1)] (by kernel_rfl) ?_
    refine wpS_this [0] rfl (by kernel_rfl) (by simp only [pickL, nthL, List.cons_append, List.nil_append]; rfl) ?_
    repeat (go_big_quiet_step (fail))
    refine wpQuiet_nil ?_
    refine wpS_does1 (i := 1) (d := some 14) (rem := []) (out := [_]) rfl (by rfl) rfl Try.call8 (light_d (oldT W0) _ l hR.out) rfl HM0.out [0] rfl covS_nil rfl rfl ?_
    rintro W8 hm7 -
    rw [hl.out]
    have HM9 := Lib.hid hm7
    clear hm7
    simp only [Act.put, List.setIfInBounds_toArray, List.set_cons_succ, List.set_cons_zero]
    refine wpS_this [2] rfl (by kernel_rfl) (by simp only [pickL, nthL, List.cons_append, List.nil_append]; rfl) ?_
    repeat (go_big_quiet_step (fail))
    refine wpQuiet_nil ?_
    refine wpS_nil ?_
    refine then_normal ?_
    refine wp_cond_false rfl ?_
    refine wp_skip ?_
    refine then_normal ?_
    refine wp_seq ?_
    cases hns' : nodeE self
    · have hns := Lib.hid hns'
      clear hns'
      refine wp_region_N [(0, 1), (1, 3), (2, 1), (3, 3), (4, 1), (5, 1)] (by kernel_rfl) ?_
      refine wpS_this [0] rfl (by kernel_rfl) (by simp only [pickL, nthL, List.cons_append, List.nil_append]; rfl) ?_
      repeat (go_big_quiet_step (fail))
      refine wpQuiet_nil ?_
      refine wpS_does1 (i := 1) (d := some 18) (rem := [_]) (out := [_]) rfl (by rfl) rfl Try.call10 (gnil_d self hns.out) rfl HM9.out [] rfl covS_nil rfl rfl ?_
      rintro W11 hm10 -
      have HM12 := Lib.hid hm10
      clear hm10
      simp only [Act.put, List.setIfInBounds_toArray, List.set_cons_succ, List.set_cons_zero]
      refine wpS_this [2] rfl (by kernel_rfl) (by simp only [pickL, nthL, List.cons_append, List.nil_append]; rfl) ?_
      repeat (go_big_quiet_step (fail))
      refine wpQuiet_nil ?_
      refine wpS_does1 (i := 3) (d := some 20) (rem := [_]) (out := [_]) rfl (by rfl) rfl Try.call11 (rnil_d self hns.out) rfl HM12.out [] rfl covS_nil rfl rfl ?_
      rintro W14 hm13 -
      have HM15 := Lib.hid hm13
      clear hm13
      simp only [Act.put, List.setIfInBounds_toArray, List.set_cons_succ, List.set_cons_zero]
      refine wpS_this [4, 5] rfl (by kernel_rfl) (by simp only [pickL, nthL, List.cons_append, List.nil_append]; rfl) ?_
      repeat (go_big_quiet_step (fail))
      refine wpQuiet_nil ?_
      refine wpS_nil ?_
      refine then_normal ?_
      refine wp_seq ?_
      refine wp_seq ?_
      refine wp_region_N [(0, 1), (1, 1), (2, 1), (3, 1), (4, 1)] (by kernel_rfl) ?_
      refine wpS_this [0, 1, 2, 3, 4] rfl (by kernel_rfl) (by simp only [pickL, nthL, List.cons_append, List.nil_append]; rfl) ?_
      repeat (go_big_quiet_step (fail))
      refine wpQuiet_nil ?_
      refine wpS_nil ?_
      refine then_normal ?_
      refine wp_cond_false rfl ?_
      refine wp_skip ?_
      refine then_normal ?_
      refine wp_seq ?_
      refine wp_seq ?_
      refine wp_region_N [(0, 1), (1, 1)] (by kernel_rfl) ?_
      refine wpS_this [0, 1] rfl (by kernel_rfl) (by simp only [pickL, nthL, List.cons_append, List.nil_append]; rfl) ?_
      repeat (go_big_quiet_step (fail))
      refine wpQuiet_nil ?_
      refine wpS_nil ?_
      refine then_normal ?_
      refine wp_cond_true rfl ?_
      refine wp_seq ?_
      refine wp_region_N [(0, 3), (1, 1)] (by kernel_rfl) ?_
      refine wpS_does0 (i := 0) (d := some 28) (rem := [_]) (out := [_]) rfl (by rfl) rfl Try.call9 (awake_d)  HM15.out [] rfl covS_nil rfl rfl ?_
      rintro W17 hm16 -
      have HM18 := Lib.hid hm16
      clear hm16
      simp only [Act.put, List.setIfInBounds_toArray, List.set_cons_succ, List.set_cons_zero]
      refine wpS_this [1] rfl (by kernel_rfl) (by simp only [pickL, nthL, List.cons_append, List.nil_append]; rfl) ?_
      repeat (go_big_quiet_step (fail))
      refine wpQuiet_nil ?_
      refine wpS_nil ?_
      refine then_normal ?_
      refine wp_ret ?_
      refine then_ret ?_
      refine bodyPost_ret (results_tmp rfl _ _ _) rfl ?_
      exact does_ret (Mem.only (M := [_]) HM18.out [0] rfl) rfl rfl
    · have hns := Lib.hid hns'
      clear hns'
      refine wp_region_N [(0, 1), (1, 3), (2, 1), (3, 3), (4, 1), (5, 1)] (by kernel_rfl) ?_
      refine wpS_this [0] rfl (by kernel_rfl) (by simp only [pickL, nthL, List.cons_append, List.nil_append]; rfl) ?_
      repeat (go_big_quiet_step (fail))
      refine wpQuiet_nil ?_
      refine wpS_doesU1 (i := 1) (d := some 18) (rem := []) rfl (by rfl) rfl Try.call10 (gnew_d self hns.out (oldT W0)) rfl HM9.out [0] rfl covS_nil (fun _ => rfl) rfl ?_
      rintro u21 W20 hm19 -
      obtain ⟨d, rfl, hm19b⟩ := Mem.someGt hm19
      clear hm19
      obtain ⟨z0, l0, hz0', hm19q⟩ := Mem.gt hm19b
      clear hm19b
      have hz0 := Lib.hid hz0'
      clear hz0'
      have HM22 := Lib.hid hm19q
      clear hm19q
      simp only [Act.put, List.setIfInBounds_toArray, List.set_cons_succ, List.set_cons_zero]
      refine wpS_this [2] rfl (by kernel_rfl) (by simp only [pickL, nthL, List.cons_append, List.nil_append]; rfl) ?_
      repeat (go_big_quiet_step (fail))
      refine wpQuiet_nil ?_
      refine wpS_doesU1 (i := 3) (d := some 20) (rem := [_]) rfl (by rfl) rfl Try.call11 (rnew_d self hns.out (listT (oldT W0 :: l0))) rfl HM22.out [1] rfl covS_nil (fun _ => rfl) rfl ?_
      rintro u25 W24 hm23 -
      obtain ⟨dF, rfl, hm23b⟩ := Mem.someTell hm23
      clear hm23
      obtain ⟨po, zF0, l1, hzF0', hm23q⟩ := Mem.tell hm23b
      clear hm23b
      have hzF0 := Lib.hid hzF0'
      clear hzF0'
      have HM26 := Lib.hid hm23q
      clear hm23q
      simp only [Act.put, List.setIfInBounds_toArray, List.set_cons_succ, List.set_cons_zero]
      refine wpS_this [4, 5] rfl (by kernel_rfl) (by simp only [pickL, nthL, List.cons_append, List.nil_append]; rfl) ?_
      repeat (go_big_quiet_step (fail))
      refine wpQuiet_nil ?_
      refine wpS_nil ?_
      refine then_normal ?_
      refine wp_seq ?_
      refine wp_seq ?_
      refine wp_region_N [(0, 1), (1, 1), (2, 1), (3, 1), (4, 1)] (by kernel_rfl) ?_
      refine wpS_this [0, 1, 2, 3, 4] rfl (by kernel_rfl) (by simp only [pickL, nthL, List.cons_append, List.nil_append]; rfl) ?_
      repeat (go_big_quiet_step (fail))
      refine wpQuiet_nil ?_
      refine wpS_nil ?_
      refine then_normal ?_
      refine wp_cond_false rfl ?_
      refine wp_skip ?_
      refine then_normal ?_
      refine wp_seq ?_
      refine wp_seq ?_
      refine wp_region_N [(0, 1), (1, 1)] (by kernel_rfl) ?_
      refine wpS_this [0, 1] rfl (by kernel_rfl) (by simp only [pickL, nthL, List.cons_append, List.nil_append]; rfl) ?_
      repeat (go_big_quiet_step (fail))
      refine wpQuiet_nil ?_
      refine wpS_nil ?_
      refine then_normal ?_
      refine wp_cond_false rfl ?_
      refine wp_skip ?_
      refine then_normal ?_
      refine wp_seq ?_
      refine wp_seq ?_
      refine wp_region_N [(0, 1), (1, 1), (2, 1)] (by kernel_rfl) ?_
      refine wpS_this [0, 1, 2] rfl (by kernel_rfl) (by simp only [pickL, nthL, List.cons_append, List.nil_append]; rfl) ?_
      repeat (go_big_quiet_step (fail))
      refine wpQuiet_nil ?_
      refine wpS_nil ?_
      refine then_normal ?_
      refine wp_block ?_
      refine wp_loop_F [4, 8, 9, 10, 11, 12, 31, 32, 33, 34, 35, 36, 37, 38, 39, 40, 41, 42, 43, 44, 45, 46, 47, 48, 49, 50, 51, 52, 53, 54, 55, 56, 57, 58, 59, 60, 61, 62, 63, 64, 65, 66, 67, 68, 69, 70, 71, 72, 73, 74, 75, 76, 77, 78, 79, 80, 81, 82, 83, 84, 85, 86, 87, 88, 89, 90, 91, 92, 93, 94, 95, 96, 97, 98, 99, 100, 101, 102, 103, 104, 105, 106, 107, 108, 109, 110, 111, 112, 113, 114] (fun n vs W' => ∃ (k : Nat) (T : Tl) (F : Tl) (z : Nat → Value) (zF : Nat → Value) (po : Nat) (R : At), n = l.length - k ∧ vs 31 = .int .i64 (k : Int) ∧ k ≤ l.length ∧ SameT T F ∧ KnowsOf R T.k z ∧ KnowsOf R F.k zF ∧ Grown (oldT W0) R ∧ Mem [gtc d T z, tlT dF F.self po F.h F.k zF, roT po F.self F.o, R] H w W') (n0 := l.length) ?_ ?_
      · exact ⟨0, newT self, newT self, z0, zF0, po, listT (listT (oldT W0 :: l0) :: l1), rfl, rfl, Nat.zero_le _, same_new _, hz0.out.grown ((Grown.refl _).list _), hzF0.out, ((Grown.refl _).list _).list _, (Mem.only (M := [_, _, _, _]) HM26.out [3, 0, 0, 0] rfl)⟩
      rintro n vs W' ⟨k, T, F, z, zF, po, R, rfl, e31, hk, hs, hzT, hzF, hg, hm⟩
      simp only [putAll, List.map_cons, List.map_nil, Act.put, List.setIfInBounds_toArray, List.set_cons_succ, List.set_cons_zero]
      rw [e31]
      clear e31
      replace hs := Lib.hid hs
      replace hzT := Lib.hid hzT
      replace hzF := Lib.hid hzF
      replace hg := Lib.hid hg
      have HM27 := Lib.hid hm
      clear hm
      refine wp_seq ?_
      refine wp_region_N [(0, 1)] (by kernel_rfl) ?_
      refine wpS_this [0] rfl (by kernel_rfl) (by simp only [pickL, nthL, List.cons_append, List.nil_append]; rfl) ?_
      repeat (go_big_quiet_step (fail))
      refine wpQuiet_nil ?_
      refine wpS_nil ?_
      refine then_normal ?_
      refine wp_seq ?_
      refine wp_cond_split rfl (fun h28 => ?_) (fun h28 => ?_)
      · have hk1 : k + 1 ≤ l.length := by have : (k : Int) < ((l.length : Nat) : Int) := (by simpa using h28); omega
        clear h28
        obtain ⟨y, hy'⟩ : ∃ y, l[k]? = some y := ⟨_, List.getElem?_eq_getElem (hk1)⟩
        have hy := Lib.hid hy'
        clear hy'
        have hyq := Lib.hid (hQ.out y (List.mem_of_getElem? hy.out))
        have ly : Hid (y.r.p.2.2.length ≤ 1000) := Lib.hid (by have := (hlit.out.2 y (List.mem_of_getElem? hy.out)).1; rw [callg_len' hyq.out]; omega)
        have lps : Hid (y.ps.length ≤ 1000) := Lib.hid (by have := (hlit.out.2 y (List.mem_of_getElem? hy.out)).2; rw [callp_len hyq.out]; omega)
        refine wp_skip ?_
        refine then_normal ?_
        refine wp_seq ?_
        refine wp_block ?_
        refine wp_seq ?_
        refine wp_region_N [(0, 1), (1, 1), (2, 3), (3, 3)] (by kernel_rfl) ?_
        refine wpS_index (E := elemG) (i := 0) (d := some 33) rfl (by rfl) rfl rfl rfl (HM27.out.row 3 rfl (hg.out.row hR.out)) (hy.out) rfl ?_
        intro eb29 eo30 hc31
        simp only [Act.put, List.setIfInBounds_toArray, List.set_cons_succ, List.set_cons_zero]
        refine wpS_loadA (i := 1) (d := some 34) (cells := CallG.enc y) rfl (by rfl) rfl rfl hc31 Try.underlying40 rfl (by kernel_rfl) rfl ?_
        simp only [Act.put, List.setIfInBounds_toArray, List.set_cons_succ, List.set_cons_zero]
        refine wpS_alloc (i := 2) (dd := 8) (z := .agg (default : CallG).enc.toArray) (cs := (default : CallG).enc.toArray) rfl (by rfl) rfl (by kernel_rfl) rfl HM27.out covS_nil rfl ?_
        rintro b34 W33 hm32 -
        have HM35 := Lib.hid hm32
        clear hm32
        simp only [Act.put, List.setIfInBounds_toArray, List.set_cons_succ, List.set_cons_zero]
        refine wpS_storeA (i := 3) (L2 := [_, _, _, _]) (cs' := CallG.enc y) rfl (by rfl) rfl rfl rfl (by kernel_rfl) (show (CallG.enc y).all Value.oneCell' = true by kernel_rfl) HM35.out 0 rfl rfl (by kernel_rfl) (by kernel_rfl) covS_nil rfl ?_
        rintro W37 hm36 -
        have HM38 := Lib.hid hm36
        clear hm36
        refine wpS_nil ?_
        refine then_normal ?_
        refine wp_seq ?_
        refine wp_seq ?_
        by_cases h1 : y.op = 0
        · have ge : (y.op == 0) = true := beq_iff_eq.2 h1
          clear h1
          obtain ⟨ta, hta'⟩ := int_letter (turnA T y.r y.ps y.draw)
          have hfa' : turnA F y.r y.ps y.draw = ta := (same_turn hs.out y.r y.ps y.draw).1.symm.trans hta'
          have gaa : (ta != ta) = false := bne_self_eq_false _
          have hta := Lib.hid hta'
          clear hta'
          have hfa := Lib.hid hfa'
          clear hfa'
          refine wp_region_N [(0, 1), (1, 1), (2, 1)] (by kernel_rfl) ?_
          refine wpS_this [0] rfl (by kernel_rfl) (by simp only [pickL, nthL, List.cons_append, List.nil_append]; rfl) ?_
          repeat (go_big_quiet_step (fail))
          refine wpQuiet_nil ?_
          refine wpS_load1 (i := 1) (d := some 36) (u := .int .i64 y.op) rfl (by rfl) rfl rfl (HM38.out.sub1 0 rfl rfl) Try.underlying3 rfl rfl ?_
          simp only [Act.put, List.setIfInBounds_toArray, List.set_cons_succ, List.set_cons_zero]
          refine wpS_this [2] rfl (by kernel_rfl) (by simp only [pickL, nthL, List.cons_append, List.nil_append]; rfl) ?_
          repeat (go_big_quiet_step (fail))
          refine wpQuiet_nil ?_
          refine wpS_nil ?_
          refine then_normal ?_
          refine wp_cond_true rfl ?_
          refine wp_seq ?_
          refine wp_region_M (fun k => k ∈ ([b34] : List Nat)) [(0, 1), (1, 1), (2, 1), (3, 1), (4, 1), (5, 1), (6, 1), (8, 0), (9, 0), (10, 2), (11, 0), (12, 2), (13, 0), (14, 2), (7, 3), (15, 3), (16, 1)] (by kernel_rfl) (by kernel_rfl) HM38.out ?_
          intro W39 hm40
          have HM41 := Lib.hid hm40
          clear hm40
          refine wpS_this [0, 1] rfl (by kernel_rfl) (by simp only [pickL, nthL, List.cons_append, List.nil_append]; rfl) ?_
          repeat (go_big_quiet_step (fail))
          refine wpQuiet_nil ?_
          refine wpS_loadA (i := 2) (d := some 40) (cells := rgC y.r (.slice y.p y.n y.c)) rfl (by rfl) rfl rfl (HM41.out.sub 0 rfl (fun _ _ h => sub_app [_, _] _ [_, _] h)) Try.underlying37 rfl (by kernel_rfl) rfl ?_
          simp only [Act.put, List.setIfInBounds_toArray, List.set_cons_succ, List.set_cons_zero]
          refine wpS_this [3] rfl (by kernel_rfl) (by simp only [pickL, nthL, List.cons_append, List.nil_append]; rfl) ?_
          repeat (go_big_quiet_step (fail))
          refine wpQuiet_nil ?_
          refine wpS_load1 (i := 4) (d := some 42) (u := .slice y.pp y.pn y.pc) rfl (by rfl) rfl rfl (HM41.out.sub1 0 rfl rfl) Try.underlying30 rfl rfl ?_
          simp only [Act.put, List.setIfInBounds_toArray, List.set_cons_succ, List.set_cons_zero]
          refine wpS_this [5] rfl (by kernel_rfl) (by simp only [pickL, nthL, List.cons_append, List.nil_append]; rfl) ?_
          repeat (go_big_quiet_step (fail))
          refine wpQuiet_nil ?_
          refine wpS_load1 (i := 6) (d := some 44) (u := .int .u64 y.draw) rfl (by rfl) rfl rfl (HM41.out.sub1 0 rfl rfl) Try.underlying38 rfl rfl ?_
          simp only [Act.put, List.setIfInBounds_toArray, List.set_cons_succ, List.set_cons_zero]
          refine wpS_all [8, 9] rfl (by kernel_rfl) (by simp only [pickL, nthL, List.cons_append, List.nil_append]; rfl) ?_
          repeat (go_big_quiet_step (fail))
          refine wpQuiet_nil ?_
          refine wpS_loadA2 (i := 10) (d := some 48) (cells := rgC y.r (.slice y.p y.n y.c)) rfl (by rfl) rfl rfl (by simp) (HM41.out.sub 0 rfl (fun _ _ h => sub_app [_, _] _ [_, _] h)) Try.underlying37 rfl (by kernel_rfl) rfl ?_
          simp only [Act.put, List.setIfInBounds_toArray, List.set_cons_succ, List.set_cons_zero]
          refine wpS_all [11] rfl (by kernel_rfl) (by simp only [pickL, nthL, List.cons_append, List.nil_append]; rfl) ?_
          repeat (go_big_quiet_step (fail))
          refine wpQuiet_nil ?_
          refine wpS_load12 (i := 12) (d := some 50) (u := .slice y.pp y.pn y.pc) rfl (by rfl) rfl rfl (by simp) (HM41.out.sub1 0 rfl rfl) Try.underlying30 rfl rfl ?_
          simp only [Act.put, List.setIfInBounds_toArray, List.set_cons_succ, List.set_cons_zero]
          refine wpS_all [13] rfl (by kernel_rfl) (by simp only [pickL, nthL, List.cons_append, List.nil_append]; rfl) ?_
          repeat (go_big_quiet_step (fail))
          refine wpQuiet_nil ?_
          refine wpS_load12 (i := 14) (d := some 52) (u := .int .u64 y.draw) rfl (by rfl) rfl rfl (by simp) (HM41.out.sub1 0 rfl rfl) Try.underlying38 rfl rfl ?_
          simp only [Act.put, List.setIfInBounds_toArray, List.set_cons_succ, List.set_cons_zero]
          refine wpS_does4 (i := 7) (d := some 45) (rem := [_, _, _]) (out := [_, _, _, _, _]) rfl (by rfl) rfl Try.call12 (gturn_d d T z R hzT.out _ y.r (hg.out.reads (srcOld hyq.out.1)) ly.out _ y.ps (hg.out.reads (srcOld hyq.out.2.1)) lps.out y.draw hyq.out.2.2.1 hyq.out.2.2.2) rfl rfl rfl rfl HM41.out [1, 3] rfl (covS_box 0 rfl covS_nil) rfl rfl ?_
          rintro W43 hm42 hg44
          rw [hta.out]
          have HM45 := Lib.hid hm42
          clear hm42
          simp only [Act.put, List.setIfInBounds_toArray, List.set_cons_succ, List.set_cons_zero]
          refine wpS_does4 (i := 15) (d := some 53) (rem := [_, _]) (out := [_, _, _, _, _]) rfl (by rfl) rfl Try.call13 (rturnR_d dF po F zF R hzF.out _ y.r (hg.out.reads (srcOld hyq.out.1)) ly.out _ y.ps (hg.out.reads (srcOld hyq.out.2.1)) lps.out y.draw hyq.out.2.2.1 hyq.out.2.2.2) rfl rfl rfl rfl HM45.out [3, 3, 1] rfl (covS_box 1 rfl covS_nil) rfl rfl ?_
          rintro W47 hm46 hg48
          rw [hfa.out]
          have HM49 := Lib.hid hm46
          clear hm46
          simp only [Act.put, List.setIfInBounds_toArray, List.set_cons_succ, List.set_cons_zero]
          refine wpS_this [16] rfl (by kernel_rfl) (by simp only [pickL, nthL, List.cons_append, List.nil_append]; rfl) ?_
          repeat (go_big_quiet_step (fail))
          refine wpQuiet_nil ?_
          refine wpS_nil ?_
          refine then_normal ?_
          refine wp_cond_false rfl ?_
          refine wp_skip ?_
          refine then_normal ?_
          refine wp_seq ?_
          obtain ⟨T2, F2, zt, zf, po3, R3, hs2', hzT2', hzF2', hg2', HU'⟩ : ∃ (T : Tl) (F : Tl) (z : Nat → Value) (zF : Nat → Value) (po : Nat) (R : At), SameT T F ∧ KnowsOf R T.k z ∧ KnowsOf R F.k zF ∧ Grown (oldT W0) R ∧ Mem [gtc d T z, tlT dF F.self po F.h F.k zF, roT po F.self F.o, R, boxT b34 (.cells (CallG.enc y).toArray 40 (0, 0))] H w _ := ⟨turnT T y.ps y.draw, turnT F y.ps y.draw, z, zF, po, R, (same_turn hs.out y.r y.ps y.draw).2, hzT.out, hzF.out, hg.out, (Mem.only (M := [_, _, _, _, _]) HM49.out [3, 0, 0, 0, 0] rfl)⟩
          have HU := Lib.hid HU'
          clear HU'
          have hs2 := Lib.hid hs2'
          clear hs2'
          have hzT2 := Lib.hid hzT2'
          clear hzT2'
          have hzF2 := Lib.hid hzF2'
          clear hzF2'
          have hg2 := Lib.hid hg2'
          clear hg2'
          refine wp_region_N [(0, 1)] (by kernel_rfl) ?_
          refine wpS_this [0] rfl (by kernel_rfl) (by simp only [pickL, nthL, List.cons_append, List.nil_append]; rfl) ?_
          repeat (go_big_quiet_step (fail))
          refine wpQuiet_nil ?_
          refine wpS_nil ?_
          refine then_normal ?_
          refine wp_block ?_
          refine wp_loop_F [4, 9, 10, 11, 12, 67, 68, 69, 70, 71, 72, 73, 74, 75, 76, 77, 78, 79, 80, 81, 82, 83, 84, 85, 86, 87, 88, 89, 90, 91, 92, 93, 94, 95, 96, 97, 98, 99, 100, 101, 102, 103, 104, 105, 106, 107, 108, 109, 110, 111, 112, 113] (fun n ws W' => ∃ i : Nat, n = 10 - i ∧ ws 9 = .int .i64 ((i : Int) - 1) ∧ i ≤ 10 ∧ Mem [gtc d T2 zt, tlT dF F2.self po3 F2.h F2.k zf, roT po3 F2.self F2.o, R3] H w W') (n0 := 10) ?_ ?_
          · exact ⟨0, rfl, rfl, Nat.zero_le _, (Mem.only (M := [_, _, _, _]) HU.out [0, 0, 0, 0] rfl)⟩
          rintro n ws W' ⟨i, rfl, e9, hi, hmm⟩
          simp only [putAll, List.map_cons, List.map_nil, Act.put, List.setIfInBounds_toArray, List.set_cons_succ, List.set_cons_zero]
          rw [e9]
          clear e9
          have HM50 := Lib.hid hmm
          clear hmm
          refine wp_seq ?_
          refine wp_seq ?_
          refine wp_region_N [(0, 1), (1, 1)] (by kernel_rfl) ?_
          refine wpS_this [0, 1] rfl (by kernel_rfl) (by simp only [pickL, nthL, List.cons_append, List.nil_append]; rfl) ?_
          repeat (go_big_quiet_step (fail))
          refine wpQuiet_nil ?_
          refine wpS_nil ?_
          refine then_normal ?_
          refine wp_cond_split rfl (fun h51 => ?_) (fun h51 => ?_)
          · have hi1 : i + 1 ≤ 10 := by have : ((i : Int) - 1) ≤ 8 := (by simpa using h51); omega
            clear h51
            obtain ⟨kr, hkr'⟩ : ∃ x, knowsR T2 ((i : Int) - 1) = x := ⟨_, rfl⟩
            have lkr' := knowsR_len hzT2.out ((i : Int) - 1)
            rw [hkr'] at lkr'
            have lkr := Lib.hid lkr'
            clear lkr'
            refine wp_skip ?_
            refine then_normal ?_
            refine wp_seq ?_
            refine wp_block ?_
            refine wp_seq ?_
            have hpb := Lib.hid (plays_b hs2.out ((i : Int) - 1))
            rw [hkr'] at hpb
            obtain ⟨kb, hkb'⟩ := bool_letter (knowsB T2 ((i : Int) - 1))
            rw [hkb'] at hpb
            obtain ⟨nb, hnb'⟩ := bool_letter (nodeE ((i : Int) - 1))
            rw [hnb'] at hpb
            have hn8 : Hid (nb = true → 0 ≤ ((i : Int) - 1) ∧ ((i : Int) - 1) < 8) := Lib.hid (fun q => of_decide_eq_true (hnb'.trans q))
            have hkr := Lib.hid hkr'
            clear hkr'
            have hkb := Lib.hid hkb'
            clear hkb'
            have hnb := Lib.hid hnb'
            clear hnb'
            refine wp_region_N [(0, 1), (1, 1), (2, 3), (3, 1), (4, 1), (5, 1), (6, 3), (7, 3), (8, 1)] (by kernel_rfl) ?_
            refine wpS_this [0, 1] rfl (by kernel_rfl) (by simp only [pickL, nthL, List.cons_append, List.nil_append]; rfl) ?_
            repeat (go_big_quiet_step (fail))
            refine wpQuiet_nil ?_
            refine wpS_doesU2 (i := 2) (d := some 74) (rem := [_, _]) rfl (by rfl) rfl Try.call16 (gknows_d d T2 zt R3 hzT2.out _) rfl rfl HM50.out [0, 2] rfl covS_nil (fun _ => rfl) rfl ?_
            rintro u54 W53 hm52 -
            obtain ⟨pk, ck, rfl, hm52q⟩ := Mem.known hkr.out hkb.out hm52
            clear hm52
            have HM55 := Lib.hid hm52q
            clear hm52q
            simp only [Act.put, List.setIfInBounds_toArray, List.set_cons_succ, List.set_cons_zero]
            refine wpS_this [3, 4, 5] rfl (by kernel_rfl) (by simp only [pickL, nthL, List.cons_append, List.nil_append]; rfl) ?_
            repeat (go_big_quiet_step (fail))
            refine wpQuiet_nil ?_
            refine wpS_alloc (i := 6) (dd := 10) (z := rgV noR (.slice none 0 0)) (cs := (rgC noR (.slice none 0 0)).toArray) rfl (by rfl) rfl (by kernel_rfl) rfl HM55.out covS_nil rfl ?_
            rintro b58 W57 hm56 -
            have HM59 := Lib.hid hm56
            clear hm56
            simp only [Act.put, List.setIfInBounds_toArray, List.set_cons_succ, List.set_cons_zero]
            refine wpS_storeA (i := 7) (L2 := [_, _, _, _, _]) (cs' := rgC (kr) (.slice pk kr.p.2.2.length ck)) rfl (by rfl) rfl rfl rfl (by kernel_rfl) (rgC_one _ _ _) HM59.out 0 rfl rfl (by kernel_rfl) (by kernel_rfl) covS_nil rfl ?_
            rintro W61 hm60 -
            have HM62 := Lib.hid hm60
            clear hm60
            refine wpS_this [8] rfl (by kernel_rfl) (by simp only [pickL, nthL, List.cons_append, List.nil_append]; rfl) ?_
            repeat (go_big_quiet_step (fail))
            refine wpQuiet_nil ?_
            refine wpS_nil ?_
            refine then_normal ?_
            refine wp_seq ?_
            cases nb
            · have hkf : kb = false := hpb.out.2.1 rfl
              subst hkf
              have hsn : Hid (sameR kr noR = true) := Lib.hid (by rw [hpb.out.2.2.2 rfl]; exact same_no')
              refine wp_region_N [(0, 1), (1, 3), (2, 1), (3, 1), (4, 1), (5, 1), (6, 1), (7, 1), (8, 1), (9, 1), (10, 1)] (by kernel_rfl) ?_
              refine wpS_this [0] rfl (by kernel_rfl) (by simp only [pickL, nthL, List.cons_append, List.nil_append]; rfl) ?_
              repeat (go_big_quiet_step (fail))
              refine wpQuiet_nil ?_
              refine wpS_does1 (i := 1) (d := some 78) (rem := [_, _, _, _, _, _]) (out := [_, _, _, _, _, _]) rfl (by rfl) rfl Try.call17 (rnode_d _) rfl HM62.out [] rfl covS_nil rfl rfl ?_
              rintro W64 hm63 -
              rw [hnb.out]
              have HM65 := Lib.hid hm63
              clear hm63
              simp only [Act.put, List.setIfInBounds_toArray, List.set_cons_succ, List.set_cons_zero]
              refine wpS_this [2, 3, 4, 5, 6] rfl (by kernel_rfl) (by simp only [pickL, nthL, List.cons_append, List.nil_append]; rfl) ?_
              repeat (go_big_quiet_step (fail))
              refine wpQuiet_nil ?_
              refine wpS_skip (i := 7) (d := some 84) rfl (by rfl) rfl ?_
              simp only [Act.put, List.setIfInBounds_toArray, List.set_cons_succ, List.set_cons_zero]
              refine wpS_skip (i := 8) (d := some 85) rfl (by rfl) rfl ?_
              simp only [Act.put, List.setIfInBounds_toArray, List.set_cons_succ, List.set_cons_zero]
              refine wpS_this [9, 10] rfl (by kernel_rfl) (by simp only [pickL, nthL, List.cons_append, List.nil_append]; rfl) ?_
              repeat (go_big_quiet_step (fail))
              refine wpQuiet_nil ?_
              refine wpS_nil ?_
              refine then_normal ?_
              refine wp_seq ?_
              skip
              · refine wp_region_M (fun k => k ∈ ([b58, dF] : List Nat)) [(0, 1), (1, 1), (2, 1), (3, 1), (4, 1), (5, 1), (6, 1), (7, 1), (8, 1), (9, 1), (10, 1), (11, 1), (12, 1), (13, 3), (14, 1), (15, 1), (16, 1), (17, 1), (18, 1), (19, 1), (20, 1), (21, 1), (22, 1), (23, 3), (24, 1), (25, 1), (26, 1)] (by kernel_rfl) (by kernel_rfl) HM65.out ?_
                intro W66 hm67
                have HM68 := Lib.hid hm67
                clear hm67
                refine wpS_this [0, 1, 2, 3, 4, 5] rfl (by kernel_rfl) (by simp only [pickL, nthL, List.cons_append, List.nil_append]; rfl) ?_
                repeat (go_big_quiet_step (fail))
                refine wpQuiet_nil ?_
                refine wpS_skip (i := 6) (d := some 93) rfl (by rfl) rfl ?_
                simp only [Act.put, List.setIfInBounds_toArray, List.set_cons_succ, List.set_cons_zero]
                refine wpS_this [7, 8, 9, 10] rfl (by kernel_rfl) (by simp only [pickL, nthL, List.cons_append, List.nil_append]; rfl) ?_
                repeat (go_big_quiet_step (fail))
                refine wpQuiet_nil ?_
                refine wpS_skip (i := 11) (d := some 98) rfl (by rfl) rfl ?_
                simp only [Act.put, List.setIfInBounds_toArray, List.set_cons_succ, List.set_cons_zero]
                refine wpS_skip (i := 12) (d := some 99) rfl (by rfl) rfl ?_
                simp only [Act.put, List.setIfInBounds_toArray, List.set_cons_succ, List.set_cons_zero]
                refine wpS_skip (i := 13) (d := some 100) rfl (by rfl) rfl ?_
                simp only [Act.put, List.setIfInBounds_toArray, List.set_cons_succ, List.set_cons_zero]
                refine wpS_this [14, 15, 16, 17, 18, 19, 20] rfl (by kernel_rfl) (by simp only [pickL, nthL, List.cons_append, List.nil_append]; rfl) ?_
                repeat (go_big_quiet_step (fail))
                refine wpQuiet_nil ?_
                refine wpS_loadA (i := 21) (d := some 108) (cells := rgC (kr) (.slice pk kr.p.2.2.length ck)) rfl (by rfl) rfl rfl (HM68.out.sub 0 rfl (fun k u h => by rw [Nat.zero_add]; exact h)) Try.underlying37 rfl (by kernel_rfl) rfl ?_
                simp only [Act.put, List.setIfInBounds_toArray, List.set_cons_succ, List.set_cons_zero]
                refine wpS_read (i := 22) (d := some 109) (v := rgV noR (.slice none 0 0)) rfl (by rfl) (by kernel_rfl) rfl ?_
                simp only [Act.put, List.setIfInBounds_toArray, List.set_cons_succ, List.set_cons_zero]
                refine wpS_does2 (i := 23) (d := some 110) (rem := [_, _, _, _, _]) (out := [_, _, _, _, _, _]) rfl (by rfl) rfl Try.call18 (gsame_d _ _ kr rowT_reads lkr.out _ noR (srcNil _) (Nat.zero_le _)) rfl rfl HM68.out [1] rfl (covS_box 0 rfl (covS_box 3 rfl covS_nil)) rfl rfl ?_
                rintro W70 hm69 hg71
                rw [hsn.out]
                have HM72 := Lib.hid hm69
                clear hm69
                simp only [Act.put, List.setIfInBounds_toArray, List.set_cons_succ, List.set_cons_zero]
                refine wpS_this [24, 25, 26] rfl (by kernel_rfl) (by simp only [pickL, nthL, List.cons_append, List.nil_append]; rfl) ?_
                repeat (go_big_quiet_step (fail))
                refine wpQuiet_nil ?_
                refine wpS_nil ?_
                refine then_normal ?_
                refine wp_cond_false rfl ?_
                refine wp_skip ?_
                refine block_normal ?_
                refine then_normal ?_
                refine wp_region_N [(0, 1), (1, 1), (2, 1)] (by kernel_rfl) ?_
                refine wpS_this [0, 1, 2] rfl (by kernel_rfl) (by simp only [pickL, nthL, List.cons_append, List.nil_append]; rfl) ?_
                repeat (go_big_quiet_step (fail))
                refine wpQuiet_nil ?_
                refine wpS_nil ?_
                refine then_normal ?_
                refine ⟨by kernel_rfl, ?_⟩
                refine ⟨10 - (i + 1), by omega, i + 1, rfl, ?_, hi1, (Mem.only (M := [_, _, _, _]) HM72.out [2, 3, 3, 2] rfl)⟩
                refine congrArg (Value.int .i64) ?_
                first | omega | (unfold wrap64; omega)
            · obtain ⟨fb, hfb'⟩ := bool_letter (F2.h ((i : Int) - 1).toNat)
              have hkf : kb = fb := (hpb.out.1 rfl).trans hfb'
              subst hkf
              have hfb := Lib.hid hfb'
              clear hfb'
              refine wp_region_N [(0, 1), (1, 3), (2, 1), (3, 1), (4, 1), (5, 1), (6, 1), (7, 1), (8, 1), (9, 1), (10, 1)] (by kernel_rfl) ?_
              refine wpS_this [0] rfl (by kernel_rfl) (by simp only [pickL, nthL, List.cons_append, List.nil_append]; rfl) ?_
              repeat (go_big_quiet_step (fail))
              refine wpQuiet_nil ?_
              refine wpS_does1 (i := 1) (d := some 78) (rem := [_, _, _, _, _, _]) (out := [_, _, _, _, _, _]) rfl (by rfl) rfl Try.call17 (rnode_d _) rfl HM62.out [] rfl covS_nil rfl rfl ?_
              rintro W74 hm73 -
              rw [hnb.out]
              have HM75 := Lib.hid hm73
              clear hm73
              simp only [Act.put, List.setIfInBounds_toArray, List.set_cons_succ, List.set_cons_zero]
              refine wpS_this [2, 3, 4, 5, 6] rfl (by kernel_rfl) (by simp only [pickL, nthL, List.cons_append, List.nil_append]; rfl) ?_
              repeat (go_big_quiet_step (fail))
              refine wpQuiet_nil ?_
              refine wpS_read (i := 7) (d := some 84) rfl (by rfl) (run_addrHs ((hn8.out rfl)) rfl rfl rfl) rfl ?_
              simp only [Act.put, List.setIfInBounds_toArray, List.set_cons_succ, List.set_cons_zero]
              refine wpS_load1 (i := 8) (d := some 85) (u := .bool _) rfl (by rfl) rfl rfl (HM75.out.sub1 4 rfl (tlC_h ((show ((i : Int) - 1).toNat < 8 by have := hn8.out rfl; omega)))) Try.underlying4 rfl rfl ?_
              simp only [Act.put, List.setIfInBounds_toArray, List.set_cons_succ, List.set_cons_zero]
              rw [hfb.out]
              refine wpS_this [9, 10] rfl (by kernel_rfl) (by simp only [pickL, nthL, List.cons_append, List.nil_append]; rfl) ?_
              repeat (go_big_quiet_step (fail))
              refine wpQuiet_nil ?_
              refine wpS_nil ?_
              refine then_normal ?_
              refine wp_seq ?_
              cases kb
              · have hsn : Hid (sameR kr noR = true) := Lib.hid (by rw [hpb.out.2.2.2 rfl]; exact same_no')
                refine wp_region_M (fun k => k ∈ ([b58, dF] : List Nat)) [(0, 1), (1, 1), (2, 1), (3, 1), (4, 1), (5, 1), (6, 1), (7, 1), (8, 1), (9, 1), (10, 1), (11, 1), (12, 1), (13, 3), (14, 1), (15, 1), (16, 1), (17, 1), (18, 1), (19, 1), (20, 1), (21, 1), (22, 1), (23, 3), (24, 1), (25, 1), (26, 1)] (by kernel_rfl) (by kernel_rfl) HM75.out ?_
                intro W76 hm77
                have HM78 := Lib.hid hm77
                clear hm77
                refine wpS_this [0, 1, 2, 3, 4, 5] rfl (by kernel_rfl) (by simp only [pickL, nthL, List.cons_append, List.nil_append]; rfl) ?_
                repeat (go_big_quiet_step (fail))
                refine wpQuiet_nil ?_
                refine wpS_skip (i := 6) (d := some 93) rfl (by rfl) rfl ?_
                simp only [Act.put, List.setIfInBounds_toArray, List.set_cons_succ, List.set_cons_zero]
                refine wpS_this [7, 8, 9, 10] rfl (by kernel_rfl) (by simp only [pickL, nthL, List.cons_append, List.nil_append]; rfl) ?_
                repeat (go_big_quiet_step (fail))
                refine wpQuiet_nil ?_
                refine wpS_skip (i := 11) (d := some 98) rfl (by rfl) rfl ?_
                simp only [Act.put, List.setIfInBounds_toArray, List.set_cons_succ, List.set_cons_zero]
                refine wpS_skip (i := 12) (d := some 99) rfl (by rfl) rfl ?_
                simp only [Act.put, List.setIfInBounds_toArray, List.set_cons_succ, List.set_cons_zero]
                refine wpS_skip (i := 13) (d := some 100) rfl (by rfl) rfl ?_
                simp only [Act.put, List.setIfInBounds_toArray, List.set_cons_succ, List.set_cons_zero]
                refine wpS_this [14, 15, 16, 17, 18, 19, 20] rfl (by kernel_rfl) (by simp only [pickL, nthL, List.cons_append, List.nil_append]; rfl) ?_
                repeat (go_big_quiet_step (fail))
                refine wpQuiet_nil ?_
                refine wpS_loadA (i := 21) (d := some 108) (cells := rgC (kr) (.slice pk kr.p.2.2.length ck)) rfl (by rfl) rfl rfl (HM78.out.sub 0 rfl (fun k u h => by rw [Nat.zero_add]; exact h)) Try.underlying37 rfl (by kernel_rfl) rfl ?_
                simp only [Act.put, List.setIfInBounds_toArray, List.set_cons_succ, List.set_cons_zero]
                refine wpS_read (i := 22) (d := some 109) (v := rgV noR (.slice none 0 0)) rfl (by rfl) (by kernel_rfl) rfl ?_
                simp only [Act.put, List.setIfInBounds_toArray, List.set_cons_succ, List.set_cons_zero]
                refine wpS_does2 (i := 23) (d := some 110) (rem := [_, _, _, _, _]) (out := [_, _, _, _, _, _]) rfl (by rfl) rfl Try.call18 (gsame_d _ _ kr rowT_reads lkr.out _ noR (srcNil _) (Nat.zero_le _)) rfl rfl HM78.out [1] rfl (covS_box 0 rfl (covS_box 3 rfl covS_nil)) rfl rfl ?_
                rintro W80 hm79 hg81
                rw [hsn.out]
                have HM82 := Lib.hid hm79
                clear hm79
                simp only [Act.put, List.setIfInBounds_toArray, List.set_cons_succ, List.set_cons_zero]
                refine wpS_this [24, 25, 26] rfl (by kernel_rfl) (by simp only [pickL, nthL, List.cons_append, List.nil_append]; rfl) ?_
                repeat (go_big_quiet_step (fail))
                refine wpQuiet_nil ?_
                refine wpS_nil ?_
                refine then_normal ?_
                refine wp_cond_false rfl ?_
                refine wp_skip ?_
                refine block_normal ?_
                refine then_normal ?_
                refine wp_region_N [(0, 1), (1, 1), (2, 1)] (by kernel_rfl) ?_
                refine wpS_this [0, 1, 2] rfl (by kernel_rfl) (by simp only [pickL, nthL, List.cons_append, List.nil_append]; rfl) ?_
                repeat (go_big_quiet_step (fail))
                refine wpQuiet_nil ?_
                refine wpS_nil ?_
                refine then_normal ?_
                refine ⟨by kernel_rfl, ?_⟩
                refine ⟨10 - (i + 1), by omega, i + 1, rfl, ?_, hi1, (Mem.only (M := [_, _, _, _]) HM82.out [2, 3, 3, 2] rfl)⟩
                refine congrArg (Value.int .i64) ?_
                first | omega | (unfold wrap64; omega)
              · have hsm : Hid (sameR kr (F2.k ((i : Int) - 1).toNat) = true) := Lib.hid (hpb.out.2.2.1 rfl)
                refine wp_region_M (fun k => k ∈ ([b58, dF] : List Nat)) [(0, 1), (1, 1), (2, 1), (3, 1), (4, 1), (5, 1), (6, 1), (7, 1), (8, 1), (9, 1), (10, 1), (11, 1), (12, 1), (13, 3), (14, 1), (15, 1), (16, 1), (17, 1), (18, 1), (19, 1), (20, 1), (21, 1), (22, 1), (23, 3), (24, 1), (25, 1), (26, 1)] (by kernel_rfl) (by kernel_rfl) HM75.out ?_
                intro W83 hm84
                have HM85 := Lib.hid hm84
                clear hm84
                refine wpS_this [0, 1, 2, 3, 4, 5] rfl (by kernel_rfl) (by simp only [pickL, nthL, List.cons_append, List.nil_append]; rfl) ?_
                repeat (go_big_quiet_step (fail))
                refine wpQuiet_nil ?_
                refine wpS_loadA (i := 6) (d := some 93) (cells := rgC (kr) (.slice pk kr.p.2.2.length ck)) rfl (by rfl) rfl rfl (HM85.out.sub 0 rfl (fun k u h => by rw [Nat.zero_add]; exact h)) Try.underlying37 rfl (by kernel_rfl) rfl ?_
                simp only [Act.put, List.setIfInBounds_toArray, List.set_cons_succ, List.set_cons_zero]
                refine wpS_this [7, 8, 9, 10] rfl (by kernel_rfl) (by simp only [pickL, nthL, List.cons_append, List.nil_append]; rfl) ?_
                repeat (go_big_quiet_step (fail))
                refine wpQuiet_nil ?_
                refine wpS_read (i := 11) (d := some 98) rfl (by rfl) (run_addrRg ((hn8.out rfl)) rfl rfl rfl) rfl ?_
                simp only [Act.put, List.setIfInBounds_toArray, List.set_cons_succ, List.set_cons_zero]
                refine wpS_loadA (i := 12) (d := some 99) (cells := rgC (F2.k ((i : Int) - 1).toNat) (zf ((i : Int) - 1).toNat)) rfl (by rfl) rfl rfl (HM85.out.sub 4 rfl (tlC_k ((show ((i : Int) - 1).toNat < 8 by have := hn8.out rfl; omega)))) Try.underlying37 rfl (by kernel_rfl) rfl ?_
                simp only [Act.put, List.setIfInBounds_toArray, List.set_cons_succ, List.set_cons_zero]
                refine wpS_does2 (i := 13) (d := some 100) (rem := [_, _, _, _]) (out := [_, _, _, _, _, _]) rfl (by rfl) rfl Try.call18 (Does.ofList (gsame_d (listT [_, _]) _ kr (srcL 0 rfl rowT_reads) lkr.out _ _ (srcL 1 rfl (hzF2.out _).1) (hzF2.out _).2)) rfl rfl HM85.out [1, 2] rfl (covS_box 0 rfl (covS_box 2 rfl covS_nil)) rfl rfl ?_
                rintro W87 hm86 hg88
                rw [hsm.out]
                have HM89 := Lib.hid hm86
                clear hm86
                simp only [Act.put, List.setIfInBounds_toArray, List.set_cons_succ, List.set_cons_zero]
                refine wpS_this [14, 15, 16, 17, 18, 19, 20] rfl (by kernel_rfl) (by simp only [pickL, nthL, List.cons_append, List.nil_append]; rfl) ?_
                repeat (go_big_quiet_step (fail))
                refine wpQuiet_nil ?_
                refine wpS_skip (i := 21) (d := some 108) rfl (by rfl) rfl ?_
                simp only [Act.put, List.setIfInBounds_toArray, List.set_cons_succ, List.set_cons_zero]
                refine wpS_skip (i := 22) (d := some 109) rfl (by rfl) rfl ?_
                simp only [Act.put, List.setIfInBounds_toArray, List.set_cons_succ, List.set_cons_zero]
                refine wpS_skip (i := 23) (d := some 110) rfl (by rfl) rfl ?_
                simp only [Act.put, List.setIfInBounds_toArray, List.set_cons_succ, List.set_cons_zero]
                refine wpS_this [24, 25, 26] rfl (by kernel_rfl) (by simp only [pickL, nthL, List.cons_append, List.nil_append]; rfl) ?_
                repeat (go_big_quiet_step (fail))
                refine wpQuiet_nil ?_
                refine wpS_nil ?_
                refine then_normal ?_
                refine wp_cond_false rfl ?_
                refine wp_skip ?_
                refine block_normal ?_
                refine then_normal ?_
                refine wp_region_N [(0, 1), (1, 1), (2, 1)] (by kernel_rfl) ?_
                refine wpS_this [0, 1, 2] rfl (by kernel_rfl) (by simp only [pickL, nthL, List.cons_append, List.nil_append]; rfl) ?_
                repeat (go_big_quiet_step (fail))
                refine wpQuiet_nil ?_
                refine wpS_nil ?_
                refine then_normal ?_
                refine ⟨by kernel_rfl, ?_⟩
                refine ⟨10 - (i + 1), by omega, i + 1, rfl, ?_, hi1, (Mem.only (M := [_, _, _, _]) HM89.out [3, 3, 3, 1] rfl)⟩
                refine congrArg (Value.int .i64) ?_
                first | omega | (unfold wrap64; omega)
          · clear h51
            refine wp_exit ?_
            refine then_exit (then_exit (block_exit ?_))
            refine block_normal ?_
            refine then_normal ?_
            refine wp_region_N [(0, 1), (1, 1)] (by kernel_rfl) ?_
            refine wpS_this [0, 1] rfl (by kernel_rfl) (by simp only [pickL, nthL, List.cons_append, List.nil_append]; rfl) ?_
            repeat (go_big_quiet_step (fail))
            refine wpQuiet_nil ?_
            refine wpS_nil ?_
            refine then_normal ?_
            refine ⟨by kernel_rfl, ?_⟩
            exact ⟨l.length - (k + 1), by omega, k + 1, T2, F2, zt, zf, po3, R3, rfl, rfl, hk1, hs2.out, hzT2.out, hzF2.out, hg2.out, (Mem.only (M := [_, _, _, _]) HM50.out [0, 0, 0, 0] rfl)⟩
        · have ge : (y.op == 0) = false := beq_eq_false_iff_ne.2 h1
          clear h1
          refine wp_region_N [(0, 1), (1, 1), (2, 1)] (by kernel_rfl) ?_
          refine wpS_this [0] rfl (by kernel_rfl) (by simp only [pickL, nthL, List.cons_append, List.nil_append]; rfl) ?_
          repeat (go_big_quiet_step (fail))
          refine wpQuiet_nil ?_
          refine wpS_load1 (i := 1) (d := some 36) (u := .int .i64 y.op) rfl (by rfl) rfl rfl (HM38.out.sub1 0 rfl rfl) Try.underlying3 rfl rfl ?_
          simp only [Act.put, List.setIfInBounds_toArray, List.set_cons_succ, List.set_cons_zero]
          refine wpS_this [2] rfl (by kernel_rfl) (by simp only [pickL, nthL, List.cons_append, List.nil_append]; rfl) ?_
          repeat (go_big_quiet_step (fail))
          refine wpQuiet_nil ?_
          refine wpS_nil ?_
          refine then_normal ?_
          refine wp_cond_false rfl ?_
          refine wp_seq ?_
          have HX' := Mem.toGt (B := R) (l := []) (S := T) (z := z) (KnowsOf.one hzT.out) (Mem.only (M := [_, _, _, _, _]) (Mem.toOne (Mem.only (M := [_, _, _, _, _]) HM38.out [4, 1, 0, 0, 0] rfl)) [1, 0, 0, 0, 0] rfl)
          have HX := Lib.hid HX'
          clear HX'
          refine wp_region_N [(0, 1), (1, 1), (2, 1), (3, 1), (4, 1), (5, 3)] (by kernel_rfl) ?_
          refine wpS_this [0, 1] rfl (by kernel_rfl) (by simp only [pickL, nthL, List.cons_append, List.nil_append]; rfl) ?_
          repeat (go_big_quiet_step (fail))
          refine wpQuiet_nil ?_
          refine wpS_load1 (i := 2) (d := some 57) (u := .int .i64 y.frm) rfl (by rfl) rfl rfl (HX.out.sub1 1 rfl rfl) Try.underlying3 rfl rfl ?_
          simp only [Act.put, List.setIfInBounds_toArray, List.set_cons_succ, List.set_cons_zero]
          refine wpS_this [3] rfl (by kernel_rfl) (by simp only [pickL, nthL, List.cons_append, List.nil_append]; rfl) ?_
          repeat (go_big_quiet_step (fail))
          refine wpQuiet_nil ?_
          refine wpS_loadA (i := 4) (d := some 59) (cells := rgC y.r (.slice y.p y.n y.c)) rfl (by rfl) rfl rfl (HX.out.sub 1 rfl (fun _ _ h => sub_app [_, _] _ [_, _] h)) Try.underlying37 rfl (by kernel_rfl) rfl ?_
          simp only [Act.put, List.setIfInBounds_toArray, List.set_cons_succ, List.set_cons_zero]
          refine wpS_does3 (i := 5) (d := some 60) (rem := [_, _, _]) (out := [_, _, _, _]) rfl (by rfl) rfl Try.call14 (gheard_d d T R y.frm _ y.r (hg.out.reads (srcOld hyq.out.1)) ly.out) rfl rfl rfl HX.out [0] rfl covS_nil rfl rfl ?_
          rintro W91 hm90 -
          obtain ⟨z2, l2, hz2', hm90q⟩ := Mem.gt hm90
          clear hm90
          have hz2 := Lib.hid hz2'
          clear hz2'
          have HM92 := Lib.hid hm90q
          clear hm90q
          simp only [Act.put, List.setIfInBounds_toArray, List.set_cons_succ, List.set_cons_zero]
          refine wpS_nil ?_
          refine then_normal ?_
          have HX' := Mem.toTell (B := listT (R :: l2)) (l := []) (S := F) (po := po) (z := zF) (KnowsOf.one (hzF.out.grown ((Grown.refl R).list l2))) (Mem.only (M := [_, _, _, _, _]) (Mem.toOne (Mem.only (M := [_, _, _, _, _]) HM92.out [1, 2, 2, 0, 0] rfl)) [1, 1, 0, 0, 0] rfl)
          have HX := Lib.hid HX'
          clear HX'
          refine wp_region_N [(0, 1), (1, 1), (2, 1), (3, 1), (4, 1), (5, 3)] (by kernel_rfl) ?_
          refine wpS_this [0, 1] rfl (by kernel_rfl) (by simp only [pickL, nthL, List.cons_append, List.nil_append]; rfl) ?_
          repeat (go_big_quiet_step (fail))
          refine wpQuiet_nil ?_
          refine wpS_load1 (i := 2) (d := some 63) (u := .int .i64 y.frm) rfl (by rfl) rfl rfl (HX.out.sub1 2 rfl rfl) Try.underlying3 rfl rfl ?_
          simp only [Act.put, List.setIfInBounds_toArray, List.set_cons_succ, List.set_cons_zero]
          refine wpS_this [3] rfl (by kernel_rfl) (by simp only [pickL, nthL, List.cons_append, List.nil_append]; rfl) ?_
          repeat (go_big_quiet_step (fail))
          refine wpQuiet_nil ?_
          refine wpS_loadA (i := 4) (d := some 65) (cells := rgC y.r (.slice y.p y.n y.c)) rfl (by rfl) rfl rfl (HX.out.sub 2 rfl (fun _ _ h => sub_app [_, _] _ [_, _] h)) Try.underlying37 rfl (by kernel_rfl) rfl ?_
          simp only [Act.put, List.setIfInBounds_toArray, List.set_cons_succ, List.set_cons_zero]
          refine wpS_does3 (i := 5) (d := some 66) (rem := [_, _]) (out := [_, _, _]) rfl (by rfl) rfl Try.call15 (rheard_d dF F (listT (R :: l2)) y.frm _ y.r ((hg.out.list l2).reads (srcOld hyq.out.1)) ly.out) rfl rfl rfl HX.out [0] rfl covS_nil rfl rfl ?_
          rintro W94 hm93 -
          obtain ⟨po2, zF2, l3, hzF2', hm93q⟩ := Mem.tell hm93
          clear hm93
          have hzF2 := Lib.hid hzF2'
          clear hzF2'
          have HM95 := Lib.hid hm93q
          clear hm93q
          simp only [Act.put, List.setIfInBounds_toArray, List.set_cons_succ, List.set_cons_zero]
          refine wpS_nil ?_
          refine then_normal ?_
          refine wp_seq ?_
          obtain ⟨T2, F2, zt, zf, po3, R3, hs2', hzT2', hzF2', hg2', HU'⟩ : ∃ (T : Tl) (F : Tl) (z : Nat → Value) (zF : Nat → Value) (po : Nat) (R : At), SameT T F ∧ KnowsOf R T.k z ∧ KnowsOf R F.k zF ∧ Grown (oldT W0) R ∧ Mem [gtc d T z, tlT dF F.self po F.h F.k zF, roT po F.self F.o, R, boxT b34 (.cells (CallG.enc y).toArray 40 (0, 0))] H w _ := ⟨heardT T y.frm y.r, heardF F y.frm y.r, z2, zF2, po2, _, same_heard hs.out y.frm y.r, hz2.out.grown ((Grown.refl _).list l3), hzF2.out, (hg.out.list l2).list l3, (Mem.only (M := [_, _, _, _, _]) HM95.out [3, 0, 0, 0, 0] rfl)⟩
          have HU := Lib.hid HU'
          clear HU'
          have hs2 := Lib.hid hs2'
          clear hs2'
          have hzT2 := Lib.hid hzT2'
          clear hzT2'
          have hzF2 := Lib.hid hzF2'
          clear hzF2'
          have hg2 := Lib.hid hg2'
          clear hg2'
          refine wp_region_N [(0, 1)] (by kernel_rfl) ?_
          refine wpS_this [0] rfl (by kernel_rfl) (by simp only [pickL, nthL, List.cons_append, List.nil_append]; rfl) ?_
          repeat (go_big_quiet_step (fail))
          refine wpQuiet_nil ?_
          refine wpS_nil ?_
          refine then_normal ?_
          refine wp_block ?_
          refine wp_loop_F [4, 9, 10, 11, 12, 67, 68, 69, 70, 71, 72, 73, 74, 75, 76, 77, 78, 79, 80, 81, 82, 83, 84, 85, 86, 87, 88, 89, 90, 91, 92, 93, 94, 95, 96, 97, 98, 99, 100, 101, 102, 103, 104, 105, 106, 107, 108, 109, 110, 111, 112, 113] (fun n ws W' => ∃ i : Nat, n = 10 - i ∧ ws 9 = .int .i64 ((i : Int) - 1) ∧ i ≤ 10 ∧ Mem [gtc d T2 zt, tlT dF F2.self po3 F2.h F2.k zf, roT po3 F2.self F2.o, R3] H w W') (n0 := 10) ?_ ?_
          · exact ⟨0, rfl, rfl, Nat.zero_le _, (Mem.only (M := [_, _, _, _]) HU.out [0, 0, 0, 0] rfl)⟩
          rintro n ws W' ⟨i, rfl, e9, hi, hmm⟩
          simp only [putAll, List.map_cons, List.map_nil, Act.put, List.setIfInBounds_toArray, List.set_cons_succ, List.set_cons_zero]
          rw [e9]
          clear e9
          have HM96 := Lib.hid hmm
          clear hmm
          refine wp_seq ?_
          refine wp_seq ?_
          refine wp_region_N [(0, 1), (1, 1)] (by kernel_rfl) ?_
          refine wpS_this [0, 1] rfl (by kernel_rfl) (by simp only [pickL, nthL, List.cons_append, List.nil_append]; rfl) ?_
          repeat (go_big_quiet_step (fail))
          refine wpQuiet_nil ?_
          refine wpS_nil ?_
          refine then_normal ?_
          refine wp_cond_split rfl (fun h97 => ?_) (fun h97 => ?_)
          · have hi1 : i + 1 ≤ 10 := by have : ((i : Int) - 1) ≤ 8 := (by simpa using h97); omega
            clear h97
            obtain ⟨kr, hkr'⟩ : ∃ x, knowsR T2 ((i : Int) - 1) = x := ⟨_, rfl⟩
            have lkr' := knowsR_len hzT2.out ((i : Int) - 1)
            rw [hkr'] at lkr'
            have lkr := Lib.hid lkr'
            clear lkr'
            refine wp_skip ?_
            refine then_normal ?_
            refine wp_seq ?_
            refine wp_block ?_
            refine wp_seq ?_
            have hpb := Lib.hid (plays_b hs2.out ((i : Int) - 1))
            rw [hkr'] at hpb
            obtain ⟨kb, hkb'⟩ := bool_letter (knowsB T2 ((i : Int) - 1))
            rw [hkb'] at hpb
            obtain ⟨nb, hnb'⟩ := bool_letter (nodeE ((i : Int) - 1))
            rw [hnb'] at hpb
            have hn8 : Hid (nb = true → 0 ≤ ((i : Int) - 1) ∧ ((i : Int) - 1) < 8) := Lib.hid (fun q => of_decide_eq_true (hnb'.trans q))
            have hkr := Lib.hid hkr'
            clear hkr'
            have hkb := Lib.hid hkb'
            clear hkb'
            have hnb := Lib.hid hnb'
            clear hnb'
            refine wp_region_N [(0, 1), (1, 1), (2, 3), (3, 1), (4, 1), (5, 1), (6, 3), (7, 3), (8, 1)] (by kernel_rfl) ?_
            refine wpS_this [0, 1] rfl (by kernel_rfl) (by simp only [pickL, nthL, List.cons_append, List.nil_append]; rfl) ?_
            repeat (go_big_quiet_step (fail))
            refine wpQuiet_nil ?_
            refine wpS_doesU2 (i := 2) (d := some 74) (rem := [_, _]) rfl (by rfl) rfl Try.call16 (gknows_d d T2 zt R3 hzT2.out _) rfl rfl HM96.out [0, 2] rfl covS_nil (fun _ => rfl) rfl ?_
            rintro u100 W99 hm98 -
            obtain ⟨pk, ck, rfl, hm98q⟩ := Mem.known hkr.out hkb.out hm98
            clear hm98
            have HM101 := Lib.hid hm98q
            clear hm98q
            simp only [Act.put, List.setIfInBounds_toArray, List.set_cons_succ, List.set_cons_zero]
            refine wpS_this [3, 4, 5] rfl (by kernel_rfl) (by simp only [pickL, nthL, List.cons_append, List.nil_append]; rfl) ?_
            repeat (go_big_quiet_step (fail))
            refine wpQuiet_nil ?_
            refine wpS_alloc (i := 6) (dd := 10) (z := rgV noR (.slice none 0 0)) (cs := (rgC noR (.slice none 0 0)).toArray) rfl (by rfl) rfl (by kernel_rfl) rfl HM101.out covS_nil rfl ?_
            rintro b104 W103 hm102 -
            have HM105 := Lib.hid hm102
            clear hm102
            simp only [Act.put, List.setIfInBounds_toArray, List.set_cons_succ, List.set_cons_zero]
            refine wpS_storeA (i := 7) (L2 := [_, _, _, _, _]) (cs' := rgC (kr) (.slice pk kr.p.2.2.length ck)) rfl (by rfl) rfl rfl rfl (by kernel_rfl) (rgC_one _ _ _) HM105.out 0 rfl rfl (by kernel_rfl) (by kernel_rfl) covS_nil rfl ?_
            rintro W107 hm106 -
            have HM108 := Lib.hid hm106
            clear hm106
            refine wpS_this [8] rfl (by kernel_rfl) (by simp only [pickL, nthL, List.cons_append, List.nil_append]; rfl) ?_
            repeat (go_big_quiet_step (fail))
            refine wpQuiet_nil ?_
            refine wpS_nil ?_
            refine then_normal ?_
            refine wp_seq ?_
            cases nb
            · have hkf : kb = false := hpb.out.2.1 rfl
              subst hkf
              have hsn : Hid (sameR kr noR = true) := Lib.hid (by rw [hpb.out.2.2.2 rfl]; exact same_no')
              refine wp_region_N [(0, 1), (1, 3), (2, 1), (3, 1), (4, 1), (5, 1), (6, 1), (7, 1), (8, 1), (9, 1), (10, 1)] (by kernel_rfl) ?_
              refine wpS_this [0] rfl (by kernel_rfl) (by simp only [pickL, nthL, List.cons_append, List.nil_append]; rfl) ?_
              repeat (go_big_quiet_step (fail))
              refine wpQuiet_nil ?_
              refine wpS_does1 (i := 1) (d := some 78) (rem := [_, _, _, _, _, _]) (out := [_, _, _, _, _, _]) rfl (by rfl) rfl Try.call17 (rnode_d _) rfl HM108.out [] rfl covS_nil rfl rfl ?_
              rintro W110 hm109 -
              rw [hnb.out]
              have HM111 := Lib.hid hm109
              clear hm109
              simp only [Act.put, List.setIfInBounds_toArray, List.set_cons_succ, List.set_cons_zero]
              refine wpS_this [2, 3, 4, 5, 6] rfl (by kernel_rfl) (by simp only [pickL, nthL, List.cons_append, List.nil_append]; rfl) ?_
              repeat (go_big_quiet_step (fail))
              refine wpQuiet_nil ?_
              refine wpS_skip (i := 7) (d := some 84) rfl (by rfl) rfl ?_
              simp only [Act.put, List.setIfInBounds_toArray, List.set_cons_succ, List.set_cons_zero]
              refine wpS_skip (i := 8) (d := some 85) rfl (by rfl) rfl ?_
              simp only [Act.put, List.setIfInBounds_toArray, List.set_cons_succ, List.set_cons_zero]
              refine wpS_this [9, 10] rfl (by kernel_rfl) (by simp only [pickL, nthL, List.cons_append, List.nil_append]; rfl) ?_
              repeat (go_big_quiet_step (fail))
              refine wpQuiet_nil ?_
              refine wpS_nil ?_
              refine then_normal ?_
              refine wp_seq ?_
              skip
              · refine wp_region_M (fun k => k ∈ ([b104, dF] : List Nat)) [(0, 1), (1, 1), (2, 1), (3, 1), (4, 1), (5, 1), (6, 1), (7, 1), (8, 1), (9, 1), (10, 1), (11, 1), (12, 1), (13, 3), (14, 1), (15, 1), (16, 1), (17, 1), (18, 1), (19, 1), (20, 1), (21, 1), (22, 1), (23, 3), (24, 1), (25, 1), (26, 1)] (by kernel_rfl) (by kernel_rfl) HM111.out ?_
                intro W112 hm113
                have HM114 := Lib.hid hm113
                clear hm113
                refine wpS_this [0, 1, 2, 3, 4, 5] rfl (by kernel_rfl) (by simp only [pickL, nthL, List.cons_append, List.nil_append]; rfl) ?_
                repeat (go_big_quiet_step (fail))
                refine wpQuiet_nil ?_
                refine wpS_skip (i := 6) (d := some 93) rfl (by rfl) rfl ?_
                simp only [Act.put, List.setIfInBounds_toArray, List.set_cons_succ, List.set_cons_zero]
                refine wpS_this [7, 8, 9, 10] rfl (by kernel_rfl) (by simp only [pickL, nthL, List.cons_append, List.nil_append]; rfl) ?_
                repeat (go_big_quiet_step (fail))
                refine wpQuiet_nil ?_
                refine wpS_skip (i := 11) (d := some 98) rfl (by rfl) rfl ?_
                simp only [Act.put, List.setIfInBounds_toArray, List.set_cons_succ, List.set_cons_zero]
                refine wpS_skip (i := 12) (d := some 99) rfl (by rfl) rfl ?_
                simp only [Act.put, List.setIfInBounds_toArray, List.set_cons_succ, List.set_cons_zero]
                refine wpS_skip (i := 13) (d := some 100) rfl (by rfl) rfl ?_
                simp only [Act.put, List.setIfInBounds_toArray, List.set_cons_succ, List.set_cons_zero]
                refine wpS_this [14, 15, 16, 17, 18, 19, 20] rfl (by kernel_rfl) (by simp only [pickL, nthL, List.cons_append, List.nil_append]; rfl) ?_
                repeat (go_big_quiet_step (fail))
                refine wpQuiet_nil ?_
                refine wpS_loadA (i := 21) (d := some 108) (cells := rgC (kr) (.slice pk kr.p.2.2.length ck)) rfl (by rfl) rfl rfl (HM114.out.sub 0 rfl (fun k u h => by rw [Nat.zero_add]; exact h)) Try.underlying37 rfl (by kernel_rfl) rfl ?_
                simp only [Act.put, List.setIfInBounds_toArray, List.set_cons_succ, List.set_cons_zero]
                refine wpS_read (i := 22) (d := some 109) (v := rgV noR (.slice none 0 0)) rfl (by rfl) (by kernel_rfl) rfl ?_
                simp only [Act.put, List.setIfInBounds_toArray, List.set_cons_succ, List.set_cons_zero]
                refine wpS_does2 (i := 23) (d := some 110) (rem := [_, _, _, _, _]) (out := [_, _, _, _, _, _]) rfl (by rfl) rfl Try.call18 (gsame_d _ _ kr rowT_reads lkr.out _ noR (srcNil _) (Nat.zero_le _)) rfl rfl HM114.out [1] rfl (covS_box 0 rfl (covS_box 3 rfl covS_nil)) rfl rfl ?_
                rintro W116 hm115 hg117
                rw [hsn.out]
                have HM118 := Lib.hid hm115
                clear hm115
                simp only [Act.put, List.setIfInBounds_toArray, List.set_cons_succ, List.set_cons_zero]
                refine wpS_this [24, 25, 26] rfl (by kernel_rfl) (by simp only [pickL, nthL, List.cons_append, List.nil_append]; rfl) ?_
                repeat (go_big_quiet_step (fail))
                refine wpQuiet_nil ?_
                refine wpS_nil ?_
                refine then_normal ?_
                refine wp_cond_false rfl ?_
                refine wp_skip ?_
                refine block_normal ?_
                refine then_normal ?_
                refine wp_region_N [(0, 1), (1, 1), (2, 1)] (by kernel_rfl) ?_
                refine wpS_this [0, 1, 2] rfl (by kernel_rfl) (by simp only [pickL, nthL, List.cons_append, List.nil_append]; rfl) ?_
                repeat (go_big_quiet_step (fail))
                refine wpQuiet_nil ?_
                refine wpS_nil ?_
                refine then_normal ?_
                refine ⟨by kernel_rfl, ?_⟩
                refine ⟨10 - (i + 1), by omega, i + 1, rfl, ?_, hi1, (Mem.only (M := [_, _, _, _]) HM118.out [2, 3, 3, 2] rfl)⟩
                refine congrArg (Value.int .i64) ?_
                first | omega | (unfold wrap64; omega)
            · obtain ⟨fb, hfb'⟩ := bool_letter (F2.h ((i : Int) - 1).toNat)
              have hkf : kb = fb := (hpb.out.1 rfl).trans hfb'
              subst hkf
              have hfb := Lib.hid hfb'
              clear hfb'
              refine wp_region_N [(0, 1), (1, 3), (2, 1), (3, 1), (4, 1), (5, 1), (6, 1), (7, 1), (8, 1), (9, 1), (10, 1)] (by kernel_rfl) ?_
              refine wpS_this [0] rfl (by kernel_rfl) (by simp only [pickL, nthL, List.cons_append, List.nil_append]; rfl) ?_
              repeat (go_big_quiet_step (fail))
              refine wpQuiet_nil ?_
              refine wpS_does1 (i := 1) (d := some 78) (rem := [_, _, _, _, _, _]) (out := [_, _, _, _, _, _]) rfl (by rfl) rfl Try.call17 (rnode_d _) rfl HM108.out [] rfl covS_nil rfl rfl ?_
              rintro W120 hm119 -
              rw [hnb.out]
              have HM121 := Lib.hid hm119
              clear hm119
              simp only [Act.put, List.setIfInBounds_toArray, List.set_cons_succ, List.set_cons_zero]
              refine wpS_this [2, 3, 4, 5, 6] rfl (by kernel_rfl) (by simp only [pickL, nthL, List.cons_append, List.nil_append]; rfl) ?_
              repeat (go_big_quiet_step (fail))
              refine wpQuiet_nil ?_
              refine wpS_read (i := 7) (d := some 84) rfl (by rfl) (run_addrHs ((hn8.out rfl)) rfl rfl rfl) rfl ?_
              simp only [Act.put, List.setIfInBounds_toArray, List.set_cons_succ, List.set_cons_zero]
              refine wpS_load1 (i := 8) (d := some 85) (u := .bool _) rfl (by rfl) rfl rfl (HM121.out.sub1 4 rfl (tlC_h ((show ((i : Int) - 1).toNat < 8 by have := hn8.out rfl; omega)))) Try.underlying4 rfl rfl ?_
              simp only [Act.put, List.setIfInBounds_toArray, List.set_cons_succ, List.set_cons_zero]
              rw [hfb.out]
              refine wpS_this [9, 10] rfl (by kernel_rfl) (by simp only [pickL, nthL, List.cons_append, List.nil_append]; rfl) ?_
              repeat (go_big_quiet_step (fail))
              refine wpQuiet_nil ?_
              refine wpS_nil ?_
              refine then_normal ?_
              refine wp_seq ?_
              cases kb
              · have hsn : Hid (sameR kr noR = true) := Lib.hid (by rw [hpb.out.2.2.2 rfl]; exact same_no')
                refine wp_region_M (fun k => k ∈ ([b104, dF] : List Nat)) [(0, 1), (1, 1), (2, 1), (3, 1), (4, 1), (5, 1), (6, 1), (7, 1), (8, 1), (9, 1), (10, 1), (11, 1), (12, 1), (13, 3), (14, 1), (15, 1), (16, 1), (17, 1), (18, 1), (19, 1), (20, 1), (21, 1), (22, 1), (23, 3), (24, 1), (25, 1), (26, 1)] (by kernel_rfl) (by kernel_rfl) HM121.out ?_
                intro W122 hm123
                have HM124 := Lib.hid hm123
                clear hm123
                refine wpS_this [0, 1, 2, 3, 4, 5] rfl (by kernel_rfl) (by simp only [pickL, nthL, List.cons_append, List.nil_append]; rfl) ?_
                repeat (go_big_quiet_step (fail))
                refine wpQuiet_nil ?_
                refine wpS_skip (i := 6) (d := some 93) rfl (by rfl) rfl ?_
                simp only [Act.put, List.setIfInBounds_toArray, List.set_cons_succ, List.set_cons_zero]
                refine wpS_this [7, 8, 9, 10] rfl (by kernel_rfl) (by simp only [pickL, nthL, List.cons_append, List.nil_append]; rfl) ?_
                repeat (go_big_quiet_step (fail))
                refine wpQuiet_nil ?_
                refine wpS_skip (i := 11) (d := some 98) rfl (by rfl) rfl ?_
                simp only [Act.put, List.setIfInBounds_toArray, List.set_cons_succ, List.set_cons_zero]
                refine wpS_skip (i := 12) (d := some 99) rfl (by rfl) rfl ?_
                simp only [Act.put, List.setIfInBounds_toArray, List.set_cons_succ, List.set_cons_zero]
                refine wpS_skip (i := 13) (d := some 100) rfl (by rfl) rfl ?_
                simp only [Act.put, List.setIfInBounds_toArray, List.set_cons_succ, List.set_cons_zero]
                refine wpS_this [14, 15, 16, 17, 18, 19, 20] rfl (by kernel_rfl) (by simp only [pickL, nthL, List.cons_append, List.nil_append]; rfl) ?_
                repeat (go_big_quiet_step (fail))
                refine wpQuiet_nil ?_
                refine wpS_loadA (i := 21) (d := some 108) (cells := rgC (kr) (.slice pk kr.p.2.2.length ck)) rfl (by rfl) rfl rfl (HM124.out.sub 0 rfl (fun k u h => by rw [Nat.zero_add]; exact h)) Try.underlying37 rfl (by kernel_rfl) rfl ?_
                simp only [Act.put, List.setIfInBounds_toArray, List.set_cons_succ, List.set_cons_zero]
                refine wpS_read (i := 22) (d := some 109) (v := rgV noR (.slice none 0 0)) rfl (by rfl) (by kernel_rfl) rfl ?_
                simp only [Act.put, List.setIfInBounds_toArray, List.set_cons_succ, List.set_cons_zero]
                refine wpS_does2 (i := 23) (d := some 110) (rem := [_, _, _, _, _]) (out := [_, _, _, _, _, _]) rfl (by rfl) rfl Try.call18 (gsame_d _ _ kr rowT_reads lkr.out _ noR (srcNil _) (Nat.zero_le _)) rfl rfl HM124.out [1] rfl (covS_box 0 rfl (covS_box 3 rfl covS_nil)) rfl rfl ?_
                rintro W126 hm125 hg127
                rw [hsn.out]
                have HM128 := Lib.hid hm125
                clear hm125
                simp only [Act.put, List.setIfInBounds_toArray, List.set_cons_succ, List.set_cons_zero]
                refine wpS_this [24, 25, 26] rfl (by kernel_rfl) (by simp only [pickL, nthL, List.cons_append, List.nil_append]; rfl) ?_
                repeat (go_big_quiet_step (fail))
                refine wpQuiet_nil ?_
                refine wpS_nil ?_
                refine then_normal ?_
                refine wp_cond_false rfl ?_
                refine wp_skip ?_
                refine block_normal ?_
                refine then_normal ?_
                refine wp_region_N [(0, 1), (1, 1), (2, 1)] (by kernel_rfl) ?_
                refine wpS_this [0, 1, 2] rfl (by kernel_rfl) (by simp only [pickL, nthL, List.cons_append, List.nil_append]; rfl) ?_
                repeat (go_big_quiet_step (fail))
                refine wpQuiet_nil ?_
                refine wpS_nil ?_
                refine then_normal ?_
                refine ⟨by kernel_rfl, ?_⟩
                refine ⟨10 - (i + 1), by omega, i + 1, rfl, ?_, hi1, (Mem.only (M := [_, _, _, _]) HM128.out [2, 3, 3, 2] rfl)⟩
                refine congrArg (Value.int .i64) ?_
                first | omega | (unfold wrap64; omega)
              · have hsm : Hid (sameR kr (F2.k ((i : Int) - 1).toNat) = true) := Lib.hid (hpb.out.2.2.1 rfl)
                refine wp_region_M (fun k => k ∈ ([b104, dF] : List Nat)) [(0, 1), (1, 1), (2, 1), (3, 1), (4, 1), (5, 1), (6, 1), (7, 1), (8, 1), (9, 1), (10, 1), (11, 1), (12, 1), (13, 3), (14, 1), (15, 1), (16, 1), (17, 1), (18, 1), (19, 1), (20, 1), (21, 1), (22, 1), (23, 3), (24, 1), (25, 1), (26, 1)] (by kernel_rfl) (by kernel_rfl) HM121.out ?_
                intro W129 hm130
                have HM131 := Lib.hid hm130
                clear hm130
                refine wpS_this [0, 1, 2, 3, 4, 5] rfl (by kernel_rfl) (by simp only [pickL, nthL, List.cons_append, List.nil_append]; rfl) ?_
                repeat (go_big_quiet_step (fail))
                refine wpQuiet_nil ?_
                refine wpS_loadA (i := 6) (d := some 93) (cells := rgC (kr) (.slice pk kr.p.2.2.length ck)) rfl (by rfl) rfl rfl (HM131.out.sub 0 rfl (fun k u h => by rw [Nat.zero_add]; exact h)) Try.underlying37 rfl (by kernel_rfl) rfl ?_
                simp only [Act.put, List.setIfInBounds_toArray, List.set_cons_succ, List.set_cons_zero]
                refine wpS_this [7, 8, 9, 10] rfl (by kernel_rfl) (by simp only [pickL, nthL, List.cons_append, List.nil_append]; rfl) ?_
                repeat (go_big_quiet_step (fail))
                refine wpQuiet_nil ?_
                refine wpS_read (i := 11) (d := some 98) rfl (by rfl) (run_addrRg ((hn8.out rfl)) rfl rfl rfl) rfl ?_
                simp only [Act.put, List.setIfInBounds_toArray, List.set_cons_succ, List.set_cons_zero]
                refine wpS_loadA (i := 12) (d := some 99) (cells := rgC (F2.k ((i : Int) - 1).toNat) (zf ((i : Int) - 1).toNat)) rfl (by rfl) rfl rfl (HM131.out.sub 4 rfl (tlC_k ((show ((i : Int) - 1).toNat < 8 by have := hn8.out rfl; omega)))) Try.underlying37 rfl (by kernel_rfl) rfl ?_
                simp only [Act.put, List.setIfInBounds_toArray, List.set_cons_succ, List.set_cons_zero]
                refine wpS_does2 (i := 13) (d := some 100) (rem := [_, _, _, _]) (out := [_, _, _, _, _, _]) rfl (by rfl) rfl Try.call18 (Does.ofList (gsame_d (listT [_, _]) _ kr (srcL 0 rfl rowT_reads) lkr.out _ _ (srcL 1 rfl (hzF2.out _).1) (hzF2.out _).2)) rfl rfl HM131.out [1, 2] rfl (covS_box 0 rfl (covS_box 2 rfl covS_nil)) rfl rfl ?_
                rintro W133 hm132 hg134
                rw [hsm.out]
                have HM135 := Lib.hid hm132
                clear hm132
                simp only [Act.put, List.setIfInBounds_toArray, List.set_cons_succ, List.set_cons_zero]
                refine wpS_this [14, 15, 16, 17, 18, 19, 20] rfl (by kernel_rfl) (by simp only [pickL, nthL, List.cons_append, List.nil_append]; rfl) ?_
                repeat (go_big_quiet_step (fail))
                refine wpQuiet_nil ?_
                refine wpS_skip (i := 21) (d := some 108) rfl (by rfl) rfl ?_
                simp only [Act.put, List.setIfInBounds_toArray, List.set_cons_succ, List.set_cons_zero]
                refine wpS_skip (i := 22) (d := some 109) rfl (by rfl) rfl ?_
                simp only [Act.put, List.setIfInBounds_toArray, List.set_cons_succ, List.set_cons_zero]
                refine wpS_skip (i := 23) (d := some 110) rfl (by rfl) rfl ?_
                simp only [Act.put, List.setIfInBounds_toArray, List.set_cons_succ, List.set_cons_zero]
                refine wpS_this [24, 25, 26] rfl (by kernel_rfl) (by simp only [pickL, nthL, List.cons_append, List.nil_append]; rfl) ?_
                repeat (go_big_quiet_step (fail))
                refine wpQuiet_nil ?_
                refine wpS_nil ?_
                refine then_normal ?_
                refine wp_cond_false rfl ?_
                refine wp_skip ?_
                refine block_normal ?_
                refine then_normal ?_
                refine wp_region_N [(0, 1), (1, 1), (2, 1)] (by kernel_rfl) ?_
                refine wpS_this [0, 1, 2] rfl (by kernel_rfl) (by simp only [pickL, nthL, List.cons_append, List.nil_append]; rfl) ?_
                repeat (go_big_quiet_step (fail))
                refine wpQuiet_nil ?_
                refine wpS_nil ?_
                refine then_normal ?_
                refine ⟨by kernel_rfl, ?_⟩
                refine ⟨10 - (i + 1), by omega, i + 1, rfl, ?_, hi1, (Mem.only (M := [_, _, _, _]) HM135.out [3, 3, 3, 1] rfl)⟩
                refine congrArg (Value.int .i64) ?_
                first | omega | (unfold wrap64; omega)
          · clear h97
            refine wp_exit ?_
            refine then_exit (then_exit (block_exit ?_))
            refine block_normal ?_
            refine then_normal ?_
            refine wp_region_N [(0, 1), (1, 1)] (by kernel_rfl) ?_
            refine wpS_this [0, 1] rfl (by kernel_rfl) (by simp only [pickL, nthL, List.cons_append, List.nil_append]; rfl) ?_
            repeat (go_big_quiet_step (fail))
            refine wpQuiet_nil ?_
            refine wpS_nil ?_
            refine then_normal ?_
            refine ⟨by kernel_rfl, ?_⟩
            exact ⟨l.length - (k + 1), by omega, k + 1, T2, F2, zt, zf, po3, R3, rfl, rfl, hk1, hs2.out, hzT2.out, hzF2.out, hg2.out, (Mem.only (M := [_, _, _, _]) HM96.out [0, 0, 0, 0] rfl)⟩
      · have hge : Hid (l.length ≤ k) := Lib.hid (by have : ¬ (k : Int) < ((l.length : Nat) : Int) := (by simpa using h28); omega)
        clear h28
        refine wp_exit ?_
        refine then_exit (then_exit (block_exit ?_))
        refine then_normal ?_
        refine wp_seq ?_
        refine wp_region_N [(0, 3), (1, 1)] (by kernel_rfl) ?_
        refine wpS_does0 (i := 0) (d := some 115) (rem := [_, _, _, _]) (out := [_, _, _, _]) rfl (by rfl) rfl Try.call9 (awake_d)  HM27.out [] rfl covS_nil rfl rfl ?_
        rintro W137 hm136 -
        have HM138 := Lib.hid hm136
        clear hm136
        simp only [Act.put, List.setIfInBounds_toArray, List.set_cons_succ, List.set_cons_zero]
        refine wpS_this [1] rfl (by kernel_rfl) (by simp only [pickL, nthL, List.cons_append, List.nil_append]; rfl) ?_
        repeat (go_big_quiet_step (fail))
        refine wpQuiet_nil ?_
        refine wpS_nil ?_
        refine then_normal ?_
        refine wp_ret ?_
        refine bodyPost_ret (results_tmp rfl _ _ _) rfl ?_
        exact does_ret (Mem.only (M := [_]) (Grown.mem hg.out (Mem.only (M := [_]) HM138.out [3] rfl)) [0] rfl) rfl rfl

end Go.Proofs.Ytnkchmafofpimaa
