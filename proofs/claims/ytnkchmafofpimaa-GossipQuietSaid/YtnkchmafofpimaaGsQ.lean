/- GossipQuiet. -/
import Derived.Test.YtnkchmafofpimaaGsY
import Derived.Test.YtnkchmafofpimaaGsL
namespace Go.Proofs.Ytnkchmafofpimaa
open Go Go.RowKit Go.BigFrame

def elemD : Elem Try.prog Int where
  enc x := [.int .u64 x]
  k := 1
  pos := by decide
  len _ := rfl
  one _ u hu := by
    simp only [List.mem_singleton] at hu
    subst hu
    rfl
  t := 38
  sl := 54
  under := Try.underlying54
  z := .int .u64 0
  bytes := 8
  bpos := by decide
  info := by kernel_rfl
  zs := by kernel_rfl
theorem srcE_any {W : World} {p : Option Addr} {c : Nat} (h : SrcE elemI W (.slice p 0 c) []) (A : At) : Reads elemI A (.slice p 0 c) [] := fun _ _ _ => ⟨.inl ⟨rfl, _, _, rfl⟩, by
  obtain ⟨_, q, d, e, h1, h2⟩ := h
  exact ⟨q, d, e, h1, h2⟩⟩
def quietT (k : Nat) : Tl := heardT (newT 0) (1 + (k : Int)) (oneR 0)
def riseN (k : Nat) : Rg := ⟨upd (oneR 0).s (1 + (k : Int)).toNat 1, (0, 0, []), (oneR 0).e⟩
theorem seven {P : Nat → Prop} (h : P 0 ∧ P 1 ∧ P 2 ∧ P 3 ∧ P 4 ∧ P 5 ∧ P 6) {k : Nat} (hk : k < 7) : P k := by
  obtain ⟨h0, h1, h2, h3, h4, h5, h6⟩ := h
  rcases (show k = 0 ∨ k = 1 ∨ k = 2 ∨ k = 3 ∨ k = 4 ∨ k = 5 ∨ k = 6 from by omega) with rfl | rfl | rfl | rfl | rfl | rfl | rfl <;> assumption
theorem one_peer {k : Nat} (hk : k < 7) : peersOf [1 + (k : Int)] 0 = [1 + (k : Int)] := seven (P := fun k => peersOf [1 + (k : Int)] 0 = [1 + (k : Int)]) (by decide +kernel) hk
theorem next_one {k : Nat} (hk : k < 7) (d : Int) : nextOf 0 [] [1 + (k : Int)] d = (1 + (k : Int), []) := by
  unfold nextOf
  rw [one_peer hk, if_neg (by simp)]
  have h : leftNow [] [1 + (k : Int)] d = [1 + (k : Int)] := by
    show shuf [1 + (k : Int)] d = _
    exact List.perm_singleton.1 (shuf_mem (P := [1 + (k : Int)]) (show 1 ≤ 64 by decide) d)
  rw [h]
  rfl
theorem quiet_o (k : Nat) : (quietT k).o = [] ∧ (quietT k).self = 0 := by
  unfold quietT heardT
  split <;> exact ⟨rfl, rfl⟩
theorem quiet_o1 {k : Nat} (hk : k < 7) (d : Int) : turnO (quietT k) [1 + (k : Int)] d = (1 + (k : Int), []) := by
  unfold turnO
  rw [(quiet_o k).1, (quiet_o k).2]
  exact next_one hk d
theorem quiet_b {k : Nat} (hk : k < 7) : quietB (quietT k) (oneR 0) (1 + (k : Int)) = true := seven (P := fun k => quietB (quietT k) (oneR 0) (1 + (k : Int)) = true) (by decide +kernel) hk
theorem quiet_s {k : Nat} (hk : k < 7) : quietB (quietT k) (riseN k) (1 + (k : Int)) = false := seven (P := fun k => quietB (quietT k) (riseN k) (1 + (k : Int)) = false) (by decide +kernel) hk
theorem quiet1 {k : Nat} (hk : k < 7) (d : Int) : turnA (quietT k) (oneR 0) [1 + (k : Int)] d = -1 := by
  unfold turnA
  rw [quiet_o1 hk, quiet_b hk]
  rfl
theorem quiet2 {k : Nat} (hk : k < 7) (d : Int) : turnT (quietT k) [1 + (k : Int)] d = quietT k := by
  show (⟨(quietT k).self, (turnO (quietT k) [1 + (k : Int)] d).2, (quietT k).h, (quietT k).k⟩ : Tl) = quietT k
  rw [quiet_o1 hk]
  show (⟨(quietT k).self, [], (quietT k).h, (quietT k).k⟩ : Tl) = quietT k
  rw [← (quiet_o k).1]
theorem quiet3 {k : Nat} (hk : k < 7) (d : Int) : turnA (quietT k) (riseN k) [1 + (k : Int)] d = 1 + (k : Int) := by
  unfold turnA
  rw [quiet_o1 hk, quiet_s hk]
  rfl
theorem quiet4 (k : Nat) (d : Int) : turnA (quietT k) (riseN k) [] d = -1 := by
  have h : turnO (quietT k) [] d = (-1, (quietT k).o) := by
    unfold turnO nextOf
    rw [(quiet_o k).2, show peersOf [] 0 = [] from by decide +kernel, if_pos rfl]
  unfold turnA
  rw [h]
  rfl
theorem quiet5 {k : Nat} (hk : k < 7) : riseR (oneR 0) (1 + (k : Int)) 1 = (riseN k, 0) := by
  rw [riseR_yes may_one (decide_eq_true (by omega)) (by decide) (seven (P := fun k => ¬ (1 : Int) ≤ (oneR 0).s (1 + (k : Int)).toNat) (by decide +kernel) hk)]
  rfl
set_option maxHeartbeats 4000000 in
set_option maxRecDepth 100000 in
theorem quiet_d (n : Int) (R : At) (v : Value) (l : List Int) (hR' : ∀ W H, R.p W H → RowAt elemD W v l) (hu' : ∀ y ∈ l, 0 ≤ y ∧ y < 18446744073709551616) : Does Try.prog 7 #[.int .i64 n, v] [R] (.bool true) [R] := by
  intro w H hp
  have HM0 := Lib.hid (mem_refl hp)
  clear hp
  obtain ⟨p, cap, rfl, -⟩ := (HM0.out.row 0 rfl hR').form
  have hR := Lib.hid hR'
  clear hR'
  have hu := Lib.hid hu'
  clear hu'
  go_enter Try.func7, Try.ntmps7
  refine wp_seq ?_
  refine wp_region_N [(0, 1)] (by kernel_rfl) ?_
  refine wpS_this [0] rfl (by kernel_rfl) (by simp only [pickL, nthL, List.cons_append, List.nil_append]; rfl) ?_
  repeat (go_big_quiet_step (fail))
  refine wpQuiet_nil ?_
  refine wpS_nil ?_
  refine then_normal ?_
  refine wp_seq ?_
  refine wp_seq ?_
  by_cases h40 : l.length ≤ 40
  · have g40 : decide ((40 : Int) < ((l.length : Nat) : Int)) = false := decide_eq_false (by omega)
    refine wp_region_N [(0, 1), (1, 1), (2, 1)] (by kernel_rfl) ?_
    refine wpS_this [0, 1, 2] rfl (by kernel_rfl) (by simp only [pickL, nthL, List.cons_append, List.nil_append]; rfl) ?_
    repeat (go_big_quiet_step (fail))
    refine wpQuiet_nil ?_
    refine wpS_nil ?_
    refine then_normal ?_
    refine wp_cond_false rfl ?_
    refine wp_skip ?_
    refine then_normal ?_
    refine wp_seq ?_
    obtain ⟨m, hm7', hmm'⟩ := mod_small 7 (by decide) (by decide) n
    have hm7n : m < 7 := by omega
    have hm7 := Lib.hid hm7n
    clear hm7'
    have hmm := Lib.hid hmm'
    clear hmm'
    refine wp_region_N [(0, 1), (1, 1), (2, 1), (3, 1), (4, 1), (5, 1)] (by kernel_rfl) ?_
    refine wpS_this [0, 1, 2, 3, 4, 5] rfl (by kernel_rfl) (by simp only [pickL, nthL, List.cons_append, List.nil_append]; rfl) ?_
    repeat (go_big_quiet_step (fail))
    refine wpQuiet_nil ?_
    refine wpS_nil ?_
    refine then_normal ?_
    refine wp_seq ?_
    rw [hmm.out, show wrap64 (1 + (m : Int)) = 1 + (m : Int) from by have := hm7.out; unfold wrap64; omega]
    refine wp_region_N [(0, 3), (1, 1), (2, 1), (3, 1), (4, 3), (5, 3), (6, 1)] (by kernel_rfl) ?_
    refine wpS_doesU1 (i := 0) (d := some 22) (rem := [_]) rfl (by rfl) rfl Try.call23 (rfirst_d 0 (oneR 0) true rfl) rfl HM0.out [] rfl covS_nil (fun _ => rfl) rfl ?_
    rintro u3 W2 hm1 -
    obtain ⟨px, cx, rfl, hm1q⟩ := Mem.ringE (n := 0) rfl hm1
    clear hm1
    have hx := Lib.hid (srcE_any (Mem.src hm1q 0 rfl rowT_reads))
    have HM4 := Lib.hid hm1q
    clear hm1q
    simp only [Act.put, List.setIfInBounds_toArray, List.set_cons_succ, List.set_cons_zero]
    refine wpS_this [1, 2, 3] rfl (by kernel_rfl) (by simp only [pickL, nthL, List.cons_append, List.nil_append]; rfl) ?_
    repeat (go_big_quiet_step (fail))
    refine wpQuiet_nil ?_
    refine wpS_alloc (i := 4) (dd := 5) (z := rgV noR (.slice none 0 0)) (cs := (rgC noR (.slice none 0 0)).toArray) rfl (by rfl) rfl (by kernel_rfl) rfl HM4.out covS_nil rfl ?_
    rintro b7 W6 hm5 -
    have HM8 := Lib.hid hm5
    clear hm5
    simp only [Act.put, List.setIfInBounds_toArray, List.set_cons_succ, List.set_cons_zero]
    refine wpS_storeA (i := 5) (L2 := [_, _]) (cs' := rgC (oneR 0) (.slice px 0 cx)) rfl (by rfl) rfl rfl rfl (by kernel_rfl) (rgC_one _ _ _) HM8.out 0 rfl rfl (by kernel_rfl) (by kernel_rfl) covS_nil rfl ?_
    rintro W10 hm9 -
    have HM11 := Lib.hid hm9
    clear hm9
    refine wpS_this [6] rfl (by kernel_rfl) (by simp only [pickL, nthL, List.cons_append, List.nil_append]; rfl) ?_
    repeat (go_big_quiet_step (fail))
    refine wpQuiet_nil ?_
    refine wpS_nil ?_
    refine then_normal ?_
    refine wp_seq ?_
    refine wp_region_N [(0, 3), (1, 1)] (by kernel_rfl) ?_
    refine wpS_doesU1 (i := 0) (d := some 25) (rem := [_, _]) rfl (by rfl) rfl Try.call10 (gnew_d 0 rfl (rowT elemI (.slice px 0 cx) (oneR 0).p.2.2)) rfl HM11.out [1] rfl covS_nil (fun _ => rfl) rfl ?_
    rintro u14 W13 hm12 -
    obtain ⟨d, rfl, hm12q⟩ := Mem.someGt hm12
    clear hm12
    have HM15 := Lib.hid hm12q
    clear hm12q
    simp only [Act.put, List.setIfInBounds_toArray, List.set_cons_succ, List.set_cons_zero]
    refine wpS_this [1] rfl (by kernel_rfl) (by simp only [pickL, nthL, List.cons_append, List.nil_append]; rfl) ?_
    repeat (go_big_quiet_step (fail))
    refine wpQuiet_nil ?_
    refine wpS_nil ?_
    refine then_normal ?_
    refine wp_seq ?_
    refine wp_region_N [(0, 1), (1, 1), (2, 1), (3, 3)] (by kernel_rfl) ?_
    refine wpS_this [0, 1] rfl (by kernel_rfl) (by simp only [pickL, nthL, List.cons_append, List.nil_append]; rfl) ?_
    repeat (go_big_quiet_step (fail))
    refine wpQuiet_nil ?_
    refine wpS_loadA (i := 2) (d := some 28) (cells := rgC (oneR 0) (.slice px 0 cx)) rfl (by rfl) rfl rfl (HM15.out.sub 1 rfl (fun k u h => by rw [Nat.zero_add]; exact h)) Try.underlying37 rfl (by kernel_rfl) rfl ?_
    simp only [Act.put, List.setIfInBounds_toArray, List.set_cons_succ, List.set_cons_zero]
    refine wpS_does3 (i := 3) (d := some 29) (rem := [_, _]) (out := [_, _, _]) rfl (by rfl) rfl Try.call14 (gheard_d d (newT 0) (rowT elemI (.slice px 0 cx) (oneR 0).p.2.2) (1 + (m : Int)) _ (oneR 0) (hx.out _) (Nat.zero_le _)) rfl rfl rfl HM15.out [0] rfl covS_nil rfl rfl ?_
    rintro W17 hm16 -
    have HM18 := Lib.hid hm16
    clear hm16
    simp only [Act.put, List.setIfInBounds_toArray, List.set_cons_succ, List.set_cons_zero]
    refine wpS_nil ?_
    refine then_normal ?_
    refine wp_seq ?_
    refine wp_seq ?_
    refine wp_region_N [(0, 1), (1, 1), (2, 1)] (by kernel_rfl) ?_
    refine wpS_this [0, 1, 2] rfl (by kernel_rfl) (by simp only [pickL, nthL, List.cons_append, List.nil_append]; rfl) ?_
    repeat (go_big_quiet_step (fail))
    refine wpQuiet_nil ?_
    refine wpS_nil ?_
    refine then_normal ?_
    refine wp_block ?_
    refine wp_loop_F [4, 9, 32, 33, 34, 35, 36, 37, 38, 39, 40, 41, 42, 43] (fun n vs W' => ∃ k : Nat, n = l.length - k ∧ vs 32 = .int .i64 (k : Int) ∧ k ≤ l.length ∧ Mem [gtT d (quietT m) (rowT elemI (.slice px 0 cx) (oneR 0).p.2.2), boxT b7 (.cells (rgC (oneR 0) (.slice px 0 cx)).toArray 37 (0, 0)), R] H w W') (n0 := l.length) ?_ ?_
    · exact ⟨0, rfl, rfl, Nat.zero_le _, (Mem.only (M := [_, _, _]) HM18.out [0, 0, 0] rfl)⟩
    rintro n vs W' ⟨k, rfl, e32, hk, hm⟩
    simp only [putAll, List.map_cons, List.map_nil, Act.put, List.setIfInBounds_toArray, List.set_cons_succ, List.set_cons_zero]
    rw [e32]
    clear e32
    have HM19 := Lib.hid hm
    clear hm
    refine wp_seq ?_
    refine wp_region_N [(0, 1)] (by kernel_rfl) ?_
    refine wpS_this [0] rfl (by kernel_rfl) (by simp only [pickL, nthL, List.cons_append, List.nil_append]; rfl) ?_
    repeat (go_big_quiet_step (fail))
    refine wpQuiet_nil ?_
    refine wpS_nil ?_
    refine then_normal ?_
    refine wp_seq ?_
    refine wp_cond_split rfl (fun h20 => ?_) (fun h20 => ?_)
    · have hk1 : k + 1 ≤ l.length := by have : (k : Int) < ((l.length : Nat) : Int) := (by simpa using h20); omega
      clear h20
      obtain ⟨y, hy'⟩ : ∃ y, l[k]? = some y := ⟨_, List.getElem?_eq_getElem (hk1)⟩
      have hy := Lib.hid hy'
      clear hy'
      have hyb := Lib.hid (hu.out y (List.mem_of_getElem? hy.out))
      refine wp_skip ?_
      refine then_normal ?_
      refine wp_seq ?_
      refine wp_block ?_
      refine wp_seq ?_
      refine wp_region_N [(0, 1), (1, 1), (2, 1)] (by kernel_rfl) ?_
      refine wpS_index (E := elemD) (i := 0) (d := some 34) rfl (by rfl) rfl rfl rfl (HM19.out.row 2 rfl hR.out) (hy.out) rfl ?_
      intro eb21 eo22 hc23
      simp only [Act.put, List.setIfInBounds_toArray, List.set_cons_succ, List.set_cons_zero]
      refine wpS_load1 (i := 1) (d := some 35) (u := .int .u64 y) rfl (by rfl) rfl rfl (hc23 0 _ rfl) Try.underlying38 rfl rfl ?_
      simp only [Act.put, List.setIfInBounds_toArray, List.set_cons_succ, List.set_cons_zero]
      refine wpS_this [2] rfl (by kernel_rfl) (by simp only [pickL, nthL, List.cons_append, List.nil_append]; rfl) ?_
      repeat (go_big_quiet_step (fail))
      refine wpQuiet_nil ?_
      refine wpS_nil ?_
      refine then_normal ?_
      refine wp_seq ?_
      refine wp_region_N [(0, 1), (1, 1), (2, 1), (3, 3), (4, 1), (5, 3), (6, 1)] (by kernel_rfl) ?_
      refine wpS_this [0] rfl (by kernel_rfl) (by simp only [pickL, nthL, List.cons_append, List.nil_append]; rfl) ?_
      repeat (go_big_quiet_step (fail))
      refine wpQuiet_nil ?_
      refine wpS_loadA (i := 1) (d := some 37) (cells := rgC (oneR 0) (.slice px 0 cx)) rfl (by rfl) rfl rfl (HM19.out.sub 1 rfl (fun k u h => by rw [Nat.zero_add]; exact h)) Try.underlying37 rfl (by kernel_rfl) rfl ?_
      simp only [Act.put, List.setIfInBounds_toArray, List.set_cons_succ, List.set_cons_zero]
      refine wpS_this [2] rfl (by kernel_rfl) (by simp only [pickL, nthL, List.cons_append, List.nil_append]; rfl) ?_
      repeat (go_big_quiet_step (fail))
      refine wpQuiet_nil ?_
      refine wpS_buildN elemI (i := 3) (dd := 39) (n := 1) (xs := [1 + (m : Int)]) (cs := #[.int .i64 (1 + (m : Int))]) rfl (by rfl) (fun _ => by kernel_rfl) rfl rfl HM19.out covS_nil rfl ?_
      rintro b26 W27 hm28 -
      have HM29 := Lib.hid hm28
      clear hm28
      simp only [Act.put, List.setIfInBounds_toArray, List.set_cons_succ, List.set_cons_zero]
      refine wpS_this [4] rfl (by kernel_rfl) (by simp only [pickL, nthL, List.cons_append, List.nil_append]; rfl) ?_
      repeat (go_big_quiet_step (fail))
      refine wpQuiet_nil ?_
      refine wpS_does4 (i := 5) (d := some 41) (rem := [_, _]) (out := [_, _, _, _]) rfl (by rfl) rfl Try.call12 (gturnP_d d (quietT m) (rowT elemI (.slice px 0 cx) (oneR 0).p.2.2) _ _ (oneR 0) (hx.out _) (Nat.zero_le _) _ [1 + (m : Int)] rowT_reads (Nat.le_of_ble_eq_true rfl) y hyb.out.1 hyb.out.2) rfl rfl rfl rfl HM29.out [1, 0] rfl covS_nil rfl rfl ?_
      rintro W31 hm30 -
      rw [quiet1 hm7.out]
      rw [quiet2 hm7.out] at hm30
      have HM32 := Lib.hid hm30
      clear hm30
      simp only [Act.put, List.setIfInBounds_toArray, List.set_cons_succ, List.set_cons_zero]
      refine wpS_this [6] rfl (by kernel_rfl) (by simp only [pickL, nthL, List.cons_append, List.nil_append]; rfl) ?_
      repeat (go_big_quiet_step (fail))
      refine wpQuiet_nil ?_
      refine wpS_nil ?_
      refine then_normal ?_
      refine wp_cond_false rfl ?_
      refine wp_skip ?_
      refine block_normal ?_
      refine then_normal ?_
      refine wp_region_N [(0, 1), (1, 1)] (by kernel_rfl) ?_
      refine wpS_this [0, 1] rfl (by kernel_rfl) (by simp only [pickL, nthL, List.cons_append, List.nil_append]; rfl) ?_
      repeat (go_big_quiet_step (fail))
      refine wpQuiet_nil ?_
      refine wpS_nil ?_
      refine then_normal ?_
      refine ⟨by kernel_rfl, ?_⟩
      exact ⟨l.length - (k + 1), by omega, k + 1, rfl, rfl, hk1, (Mem.only (M := [_, _, _]) HM32.out [0, 1, 1] rfl)⟩
    · have hge : Hid (l.length ≤ k) := Lib.hid (by have : ¬ (k : Int) < ((l.length : Nat) : Int) := (by simpa using h20); omega)
      clear h20
      refine wp_exit ?_
      refine then_exit (then_exit (block_exit ?_))
      refine then_normal ?_
      refine wp_seq ?_
      refine wp_region_N [(0, 1), (1, 1), (2, 3), (3, 1), (4, 1), (5, 1), (6, 3), (7, 3), (8, 1)] (by kernel_rfl) ?_
      refine wpS_loadA (i := 0) (d := some 45) (cells := rgC (oneR 0) (.slice px 0 cx)) rfl (by rfl) rfl rfl (HM19.out.sub 1 rfl (fun k u h => by rw [Nat.zero_add]; exact h)) Try.underlying37 rfl (by kernel_rfl) rfl ?_
      simp only [Act.put, List.setIfInBounds_toArray, List.set_cons_succ, List.set_cons_zero]
      refine wpS_this [1] rfl (by kernel_rfl) (by simp only [pickL, nthL, List.cons_append, List.nil_append]; rfl) ?_
      repeat (go_big_quiet_step (fail))
      refine wpQuiet_nil ?_
      refine wpS_doesU3 (i := 2) (d := some 47) (rem := [_, _]) rfl (by rfl) rfl Try.call24 (grise_d R _ (oneR 0) (hx.out _) (Nat.zero_le _) (1 + (m : Int)) 1 (riseN m) 0 (quiet5 hm7.out)) rfl rfl rfl HM19.out [2] rfl covS_nil (fun _ => rfl) rfl ?_
      rintro u35 W34 hm33 -
      obtain ⟨py, cy, rfl, hm33q⟩ := Mem.ringE (n := 0) rfl hm33
      clear hm33
      have hy2 := Lib.hid (srcE_any (Mem.src hm33q 0 rfl rowT_reads))
      have HM36 := Lib.hid hm33q
      clear hm33q
      simp only [Act.put, List.setIfInBounds_toArray, List.set_cons_succ, List.set_cons_zero]
      refine wpS_this [3, 4, 5] rfl (by kernel_rfl) (by simp only [pickL, nthL, List.cons_append, List.nil_append]; rfl) ?_
      repeat (go_big_quiet_step (fail))
      refine wpQuiet_nil ?_
      refine wpS_alloc (i := 6) (dd := 10) (z := rgV noR (.slice none 0 0)) (cs := (rgC noR (.slice none 0 0)).toArray) rfl (by rfl) rfl (by kernel_rfl) rfl HM36.out covS_nil rfl ?_
      rintro b39 W38 hm37 -
      have HM40 := Lib.hid hm37
      clear hm37
      simp only [Act.put, List.setIfInBounds_toArray, List.set_cons_succ, List.set_cons_zero]
      refine wpS_storeA (i := 7) (L2 := [_, _, _, _]) (cs' := rgC (riseN m) (.slice py 0 cy)) rfl (by rfl) rfl rfl rfl (by kernel_rfl) (rgC_one _ _ _) HM40.out 0 rfl rfl (by kernel_rfl) (by kernel_rfl) covS_nil rfl ?_
      rintro W42 hm41 -
      have HM43 := Lib.hid hm41
      clear hm41
      refine wpS_this [8] rfl (by kernel_rfl) (by simp only [pickL, nthL, List.cons_append, List.nil_append]; rfl) ?_
      repeat (go_big_quiet_step (fail))
      refine wpQuiet_nil ?_
      refine wpS_nil ?_
      refine then_normal ?_
      refine wp_seq ?_
      refine wp_region_N [(0, 1), (1, 1), (2, 1), (3, 1), (4, 1), (5, 1), (6, 3), (7, 3), (8, 1), (9, 1), (10, 1), (11, 1), (12, 1), (13, 1), (14, 3), (15, 1), (16, 1), (17, 1), (18, 3), (19, 1), (20, 1)] (by kernel_rfl) ?_
      refine wpS_this [0, 1, 2, 3] rfl (by kernel_rfl) (by simp only [pickL, nthL, List.cons_append, List.nil_append]; rfl) ?_
      repeat (go_big_quiet_step (fail))
      refine wpQuiet_nil ?_
      refine wpS_loadA (i := 4) (d := some 54) (cells := rgC (riseN m) (.slice py 0 cy)) rfl (by rfl) rfl rfl (HM43.out.sub 0 rfl (fun k u h => by rw [Nat.zero_add]; exact h)) Try.underlying37 rfl (by kernel_rfl) rfl ?_
      simp only [Act.put, List.setIfInBounds_toArray, List.set_cons_succ, List.set_cons_zero]
      refine wpS_this [5] rfl (by kernel_rfl) (by simp only [pickL, nthL, List.cons_append, List.nil_append]; rfl) ?_
      repeat (go_big_quiet_step (fail))
      refine wpQuiet_nil ?_
      refine wpS_buildN elemI (i := 6) (dd := 56) (n := 1) (xs := [1 + (m : Int)]) (cs := #[.int .i64 (1 + (m : Int))]) rfl (by rfl) (fun _ => by kernel_rfl) rfl rfl HM43.out covS_nil rfl ?_
      rintro b46 W47 hm48 -
      have HM49 := Lib.hid hm48
      clear hm48
      simp only [Act.put, List.setIfInBounds_toArray, List.set_cons_succ, List.set_cons_zero]
      refine wpS_does4 (i := 7) (d := some 57) (rem := [_, _, _, _]) (out := [_, _, _, _, _, _]) rfl (by rfl) rfl Try.call12 (gturnP_d d (quietT m) (rowT elemI (.slice px 0 cx) (oneR 0).p.2.2) _ _ (riseN m) (hy2.out _) (Nat.zero_le _) _ [1 + (m : Int)] rowT_reads (Nat.le_of_ble_eq_true rfl) 1 (by decide) (by decide)) rfl rfl rfl rfl HM49.out [4, 0] rfl covS_nil rfl rfl ?_
      rintro W51 hm50 -
      rw [quiet3 hm7.out]
      rw [quiet2 hm7.out] at hm50
      have HM52 := Lib.hid hm50
      clear hm50
      simp only [Act.put, List.setIfInBounds_toArray, List.set_cons_succ, List.set_cons_zero]
      refine wpS_this [8, 9, 10, 11, 12] rfl (by kernel_rfl) (by simp only [pickL, nthL, List.cons_append, List.nil_append]; rfl) ?_
      repeat (go_big_quiet_step (fail))
      refine wpQuiet_nil ?_
      refine wpS_loadA (i := 13) (d := some 63) (cells := rgC (riseN m) (.slice py 0 cy)) rfl (by rfl) rfl rfl (HM52.out.sub 2 rfl (fun k u h => by rw [Nat.zero_add]; exact h)) Try.underlying37 rfl (by kernel_rfl) rfl ?_
      simp only [Act.put, List.setIfInBounds_toArray, List.set_cons_succ, List.set_cons_zero]
      refine wpS_does4 (i := 14) (d := some 64) (rem := [_, _, _, _]) (out := [_, _, _, _, _, _]) rfl (by rfl) rfl Try.call12 (gturnP_d d (quietT m) (rowT elemI (.slice px 0 cx) (oneR 0).p.2.2) R _ (riseN m) (hy2.out _) (Nat.zero_le _) _ [] (srcNil R) (Nat.zero_le _) 1 (by decide) (by decide)) rfl rfl rfl rfl HM52.out [0, 3] rfl covS_nil rfl rfl ?_
      rintro W54 hm53 -
      rw [quiet4 m]
      have HM55 := Lib.hid hm53
      clear hm53
      simp only [Act.put, List.setIfInBounds_toArray, List.set_cons_succ, List.set_cons_zero]
      refine wpS_this [15, 16, 17] rfl (by kernel_rfl) (by simp only [pickL, nthL, List.cons_append, List.nil_append]; rfl) ?_
      repeat (go_big_quiet_step (fail))
      refine wpQuiet_nil ?_
      refine wpS_does0 (i := 18) (d := some 68) (rem := [_, _, _, _, _, _]) (out := [_, _, _, _, _, _]) rfl (by rfl) rfl Try.call9 (awake_d)  HM55.out [] rfl covS_nil rfl rfl ?_
      rintro W57 hm56 -
      have HM58 := Lib.hid hm56
      clear hm56
      simp only [Act.put, List.setIfInBounds_toArray, List.set_cons_succ, List.set_cons_zero]
      refine wpS_this [19, 20] rfl (by kernel_rfl) (by simp only [pickL, nthL, List.cons_append, List.nil_append]; rfl) ?_
      repeat (go_big_quiet_step (fail))
      refine wpQuiet_nil ?_
      refine wpS_nil ?_
      refine then_normal ?_
      refine wp_ret ?_
      refine bodyPost_ret (results_tmp rfl _ _ _) rfl ?_
      exact does_ret (Mem.only (M := [_]) HM58.out [1] rfl) rfl rfl
  · have g40 : decide ((40 : Int) < ((l.length : Nat) : Int)) = true := decide_eq_true (by omega)
    refine wp_region_N [(0, 1), (1, 1), (2, 1)] (by kernel_rfl) ?_
    refine wpS_this [0, 1, 2] rfl (by kernel_rfl) (by simp only [pickL, nthL, List.cons_append, List.nil_append]; rfl) ?_
    repeat (go_big_quiet_step (fail))
    refine wpQuiet_nil ?_
    refine wpS_nil ?_
    refine then_normal ?_
    refine wp_cond_true rfl ?_
    refine wp_seq ?_
    refine wp_region_N [(0, 3), (1, 1)] (by kernel_rfl) ?_
    refine wpS_does0 (i := 0) (d := some 15) (rem := [_]) (out := [_]) rfl (by rfl) rfl Try.call9 (awake_d)  HM0.out [] rfl covS_nil rfl rfl ?_
    rintro W60 hm59 -
    have HM61 := Lib.hid hm59
    clear hm59
    simp only [Act.put, List.setIfInBounds_toArray, List.set_cons_succ, List.set_cons_zero]
    refine wpS_this [1] rfl (by kernel_rfl) (by simp only [pickL, nthL, List.cons_append, List.nil_append]; rfl) ?_
    repeat (go_big_quiet_step (fail))
    refine wpQuiet_nil ?_
    refine wpS_nil ?_
    refine then_normal ?_
    refine wp_ret ?_
    refine then_ret ?_
    refine bodyPost_ret (results_tmp rfl _ _ _) rfl ?_
    exact does_ret (Mem.only (M := [_]) HM61.out [0] rfl) rfl rfl

end Go.Proofs.Ytnkchmafofpimaa
