/- Lead: the laws' helpers. -/
import Derived.Test.YtdfmfcbeebfdhaaLdN
import Derived.Test.YtdfmfcbeebfdhaaRgE
namespace Go.Proofs.Ytdfmfcbeebfdhaa
open Go Go.RowKit Go.BigFrame

theorem run_neqEn {o : Oper} {a : Act} {W : World} {x y : Operand} {tt : TypeId} {f g : Nat → En} {b : Bool} (hb : (!decide (tab16 f = tab16 g)) = b) (ho : o.op = .binOp .neq 28 x y tt) (hx : a.eval x = .agg (enC f).toArray) (hy : a.eval y = .agg (enC g).toArray) : (execOp a.eval o).run Try.prog W = .ok (.value (.bool b)) W := by
  subst hb
  have hg : (eqGuard .neq 28 x y (.agg (enC f).toArray) (.agg (enC g).toArray)).run Try.prog W = .ok () W := run_eqGuard_agg W .neq _ x y _ _ (by kernel_rfl)
  obtain ⟨i0, hin⟩ : ∃ i, Try.prog.info? 27 = some i := info_of_underlying ent_under
  have he : (Op.equalIn 10000 28 (.agg (enC f).toArray) (.agg (enC g).toArray)).run Try.prog W = .ok (decide (tab16 f = tab16 g)) W := by
    rw [run_equalIn_array W 9999 _ _ under16 hin, show Try.prog.cellsOf 27 = 2 by kernel_rfl, tab16_is, tab16_is]
    refine run_items _ fun j hj => ?_
    have hj16 := List.mem_range.1 hj
    exact ⟨_, _, part_ent hj16 W, part_ent hj16 W, run_eqIn' 9997 W (f j) (g j)⟩
  unfold execOp
  simp only [ho, hx, hy, Sem.run_bind, hg, Result.andThen_ok]
  rw [run_neq_struct, he]
  rfl
theorem Reads.take {A : At} {p : Option Addr} {n c m : Nat} {l : List Int} (h : Reads elemI A (.slice p n c) l) (hm : m ≤ l.length) : Reads elemI A (.slice p m c) (l.take m) := fun W H q => (h W H q).take hm
theorem hvy1h (x : Hc) (h : List Int) : (x.n ≤ 100 ∧ hvy 0 [x] = 0 ∧ h.length ≤ 60) ∨ (x.n ≤ 100 ∧ hvy 0 [x] = 0 ∧ 60 < h.length) ∨ (¬ x.n ≤ 100 ∧ 0 < hvy 0 [x]) := by
  rcases hvy1 x with ⟨h1, h2⟩ | h1
  · by_cases h3 : h.length ≤ 60
    · exact .inl ⟨h1, h2, h3⟩
    · exact .inr (.inl ⟨h1, h2, by omega⟩)
  · exact .inr (.inr h1)
theorem hvy1hh (x : Hc) (h k : List Int) : (x.n ≤ 100 ∧ hvy 0 [x] = 0 ∧ h.length ≤ 60 ∧ k.length ≤ 60) ∨ (x.n ≤ 100 ∧ hvy 0 [x] = 0 ∧ h.length ≤ 60 ∧ 60 < k.length) ∨ (x.n ≤ 100 ∧ hvy 0 [x] = 0 ∧ 60 < h.length) ∨ (¬ x.n ≤ 100 ∧ 0 < hvy 0 [x]) := by
  rcases hvy1h x h with ⟨h1, h2, h3⟩ | h1 | h1
  · by_cases h4 : k.length ≤ 60
    · exact .inl ⟨h1, h2, h3, h4⟩
    · exact .inr (.inl ⟨h1, h2, h3, by omega⟩)
  · exact .inr (.inr (.inl h1))
  · exact .inr (.inr (.inr h1))
theorem stage_ok {a s : Rg} {n : Int} {h : List Int} (hs : stageR a n h = (s, 0)) : Staged a s n h := by
  rcases stage_ways a n h with ⟨_, h2⟩ | ⟨e, h1, h2⟩
  · rw [hs] at h2
    exact h2
  · rw [hs] at h1
    have h3 := (Prod.mk.inj h1).2
    omega
theorem stage_no {a s : Rg} {n e : Int} {h : List Int} (hs : stageR a n h = (s, e)) (he : ¬ e = 0) : s = noR := by
  rcases stage_ways a n h with ⟨h1, _⟩ | ⟨e', h1, _⟩
  · rw [hs] at h1
    exact absurd h1 he
  · rw [hs] at h1
    exact (Prod.mk.inj h1).1
theorem stage_len {a s : Rg} {n e : Int} {h : List Int} (hs : stageR a n h = (s, e)) (la : a.p.2.2.length ≤ 1000) : s.p.2.2.length ≤ 1000 := by
  by_cases he : e = 0
  · subst he
    exact (stage_ok hs).len la (by decide)
  · rw [stage_no hs he]
    exact Nat.zero_le _
set_option maxHeartbeats 4000000 in
set_option maxRecDepth 100000 in
theorem lawake_d  : Does Try.prog 9 #[] [] (.bool true) [] := by
  intro w H hp
  have HM0 := Lib.hid (mem_refl hp)
  clear hp
  go_enter Try.func9, Try.ntmps9
  refine wp_seq ?_
  refine wp_region_N [(0, 1)] (by kernel_rfl) ?_
  refine wpS_this [0] rfl (by kernel_rfl) (by simp only [pickL, nthL, List.cons_append, List.nil_append]; rfl) ?_
  repeat (go_big_quiet_step (fail))
  refine wpQuiet_nil ?_
  refine wpS_nil ?_
  refine then_normal ?_
  refine wp_seq ?_
  refine wp_region_N [(0, 3), (1, 1), (2, 1), (3, 1), (4, 3), (5, 3), (6, 1)] (by kernel_rfl) ?_
  refine wpS_doesU1 (i := 0) (d := some 8) (rem := []) rfl (by rfl) rfl Try.call19 (gfirst_d 0 (oneR 0) true rfl) rfl HM0.out [] rfl covS_nil (fun _ => rfl) rfl ?_
  rintro u3 W2 hm1 -
  obtain ⟨px, cx, rfl, hm1q⟩ := Mem.ringE (n := 0) rfl hm1
  clear hm1
  have HM4 := Lib.hid hm1q
  clear hm1q
  simp only [Act.put, List.setIfInBounds_toArray, List.set_cons_succ, List.set_cons_zero]
  refine wpS_this [1, 2, 3] rfl (by kernel_rfl) (by simp only [pickL, nthL, List.cons_append, List.nil_append]; rfl) ?_
  repeat (go_big_quiet_step (fail))
  refine wpQuiet_nil ?_
  refine wpS_alloc (i := 4) (dd := 1) (z := rgV noR (.slice none 0 0)) (cs := (rgC noR (.slice none 0 0)).toArray) rfl (by rfl) rfl (by kernel_rfl) rfl HM4.out covS_nil rfl ?_
  rintro b7 W6 hm5 -
  have HM8 := Lib.hid hm5
  clear hm5
  simp only [Act.put, List.setIfInBounds_toArray, List.set_cons_succ, List.set_cons_zero]
  refine wpS_storeA (i := 5) (L2 := [_]) (cs' := rgC ((oneR 0)) (.slice px 0 cx)) rfl (by rfl) rfl rfl rfl (by kernel_rfl) (rgC_one _ _ _) HM8.out 0 rfl rfl (by kernel_rfl) (by kernel_rfl) covS_nil rfl ?_
  rintro W10 hm9 -
  have HM11 := Lib.hid hm9
  clear hm9
  refine wpS_this [6] rfl (by kernel_rfl) (by simp only [pickL, nthL, List.cons_append, List.nil_append]; rfl) ?_
  repeat (go_big_quiet_step (fail))
  refine wpQuiet_nil ?_
  refine wpS_nil ?_
  refine then_normal ?_
  refine wp_seq ?_
  refine wp_region_N [(0, 1), (1, 3), (2, 1), (3, 1), (4, 1), (5, 3)] (by kernel_rfl) ?_
  refine wpS_loadA (i := 0) (d := some 12) (cells := rgC ((oneR 0)) (.slice px 0 cx)) rfl (by rfl) rfl rfl (HM11.out.sub 0 rfl (fun k u h => by rw [Nat.zero_add]; exact h)) Try.underlying30 rfl (by kernel_rfl) rfl ?_
  simp only [Act.put, List.setIfInBounds_toArray, List.set_cons_succ, List.set_cons_zero]
  refine wpS_doesU3 (i := 1) (d := some 13) (rem := [_]) rfl (by rfl) rfl Try.call20 (grise_d (rowT elemI _ _) _ (oneR 0) rowT_reads (Nat.zero_le _) 1 1 twoR 0 (riseR_yes (by decide +kernel) (by decide) (by decide) (by decide +kernel))) rfl rfl rfl HM11.out [1] rfl covS_nil (fun _ => rfl) rfl ?_
  rintro u14 W13 hm12 -
  obtain ⟨py, cy, rfl, hm12q⟩ := Mem.ringE (n := 0) rfl hm12
  clear hm12
  have HM15 := Lib.hid hm12q
  clear hm12q
  simp only [Act.put, List.setIfInBounds_toArray, List.set_cons_succ, List.set_cons_zero]
  refine wpS_this [2, 3, 4] rfl (by kernel_rfl) (by simp only [pickL, nthL, List.cons_append, List.nil_append]; rfl) ?_
  repeat (go_big_quiet_step (fail))
  refine wpQuiet_nil ?_
  refine wpS_storeA (i := 5) (L2 := [_, _]) (cs' := rgC (twoR) (.slice py 0 cy)) rfl (by rfl) rfl rfl rfl (by kernel_rfl) (rgC_one _ _ _) HM15.out 2 rfl rfl (by kernel_rfl) (by kernel_rfl) covS_nil rfl ?_
  rintro W17 hm16 -
  have HM18 := Lib.hid hm16
  clear hm16
  refine wpS_nil ?_
  refine then_normal ?_
  refine wp_seq ?_
  obtain ⟨s, hs', hv1, hs1, ht8', hs2', hsl⟩ := awake_stage
  have hs := Lib.hid hs'
  clear hs'
  have ht8 := Lib.hid ht8'
  clear ht8'
  have hs2 := Lib.hid hs2'
  clear hs2'
  refine wp_region_N [(0, 1), (1, 3), (2, 3), (3, 1), (4, 1), (5, 1), (6, 3), (7, 3), (8, 1)] (by kernel_rfl) ?_
  refine wpS_loadA (i := 0) (d := some 17) (cells := rgC (twoR) (.slice py 0 cy)) rfl (by rfl) rfl rfl (HM18.out.sub 0 rfl (fun k u h => by rw [Nat.zero_add]; exact h)) Try.underlying30 rfl (by kernel_rfl) rfl ?_
  simp only [Act.put, List.setIfInBounds_toArray, List.set_cons_succ, List.set_cons_zero]
  refine wpS_build1 elemI (i := 1) (dd := 18) (y := (0 : Int)) rfl (by rfl) rfl rfl rfl (by decide) HM18.out covS_nil rfl ?_
  rintro b21 W22 hm23 -
  have HM24 := Lib.hid hm23
  clear hm23
  simp only [Act.put, List.setIfInBounds_toArray, List.set_cons_succ, List.set_cons_zero]
  refine wpS_doesU3 (i := 2) (d := some 19) (rem := [_, _]) rfl (by rfl) rfl Try.call10 (DoesU.ofList (gstage_d (listT [_, _]) _ twoR (srcL 0 rfl rowT_reads) (Nat.zero_le _) 0 _ [0] (rowL 1 rfl rowOwn) (by decide) s 0 hs.out)) rfl rfl rfl HM24.out [2, 0] rfl covS_nil (fun _ => rfl) rfl ?_
  rintro u27 W26 hm25 -
  obtain ⟨ps, cs, rfl, hm25q⟩ := Mem.ringE rfl hm25
  clear hm25
  have HM28 := Lib.hid hm25q
  clear hm25q
  simp only [Act.put, List.setIfInBounds_toArray, List.set_cons_succ, List.set_cons_zero]
  refine wpS_this [3, 4, 5] rfl (by kernel_rfl) (by simp only [pickL, nthL, List.cons_append, List.nil_append]; rfl) ?_
  repeat (go_big_quiet_step (fail))
  refine wpQuiet_nil ?_
  refine wpS_alloc (i := 6) (dd := 3) (z := rgV noR (.slice none 0 0)) (cs := (rgC noR (.slice none 0 0)).toArray) rfl (by rfl) rfl (by kernel_rfl) rfl HM28.out covS_nil rfl ?_
  rintro b31 W30 hm29 -
  have HM32 := Lib.hid hm29
  clear hm29
  simp only [Act.put, List.setIfInBounds_toArray, List.set_cons_succ, List.set_cons_zero]
  refine wpS_storeA (i := 7) (L2 := [_, _, _, _, _]) (cs' := rgC (s) (.slice ps s.p.2.2.length cs)) rfl (by rfl) rfl rfl rfl (by kernel_rfl) (rgC_one _ _ _) HM32.out 0 rfl rfl (by kernel_rfl) (by kernel_rfl) covS_nil rfl ?_
  rintro W34 hm33 -
  have HM35 := Lib.hid hm33
  clear hm33
  refine wpS_this [8] rfl (by kernel_rfl) (by simp only [pickL, nthL, List.cons_append, List.nil_append]; rfl) ?_
  repeat (go_big_quiet_step (fail))
  refine wpQuiet_nil ?_
  refine wpS_nil ?_
  refine then_normal ?_
  refine wp_seq ?_
  refine wp_region_N [(0, 1), (1, 3), (2, 3), (3, 1), (4, 1), (5, 1), (6, 3), (7, 3), (8, 1)] (by kernel_rfl) ?_
  refine wpS_loadA (i := 0) (d := some 23) (cells := rgC (s) (.slice ps s.p.2.2.length cs)) rfl (by rfl) rfl rfl (HM35.out.sub 0 rfl (fun k u h => by rw [Nat.zero_add]; exact h)) Try.underlying30 rfl (by kernel_rfl) rfl ?_
  simp only [Act.put, List.setIfInBounds_toArray, List.set_cons_succ, List.set_cons_zero]
  refine wpS_build1 elemI (i := 1) (dd := 24) (y := (0 : Int)) rfl (by rfl) rfl rfl rfl (by decide) HM35.out covS_nil rfl ?_
  rintro b38 W39 hm40 -
  have HM41 := Lib.hid hm40
  clear hm40
  simp only [Act.put, List.setIfInBounds_toArray, List.set_cons_succ, List.set_cons_zero]
  refine wpS_doesU3 (i := 2) (d := some 25) (rem := [_, _, _, _, _]) rfl (by rfl) rfl Try.call10 (DoesU.ofList (gstage_d (listT [_, _]) _ s (srcL 0 rfl rowT_reads) hsl 0 _ [0] (rowL 1 rfl rowOwn) (by decide) noR 9 hs2.out)) rfl rfl rfl HM41.out [2, 0] rfl covS_nil (fun _ => rfl) rfl ?_
  rintro u44 W43 hm42 -
  obtain ⟨pz, cz, rfl, hm42q⟩ := Mem.ringE (n := 0) rfl hm42
  clear hm42
  have HM45 := Lib.hid hm42q
  clear hm42q
  simp only [Act.put, List.setIfInBounds_toArray, List.set_cons_succ, List.set_cons_zero]
  refine wpS_this [3, 4, 5] rfl (by kernel_rfl) (by simp only [pickL, nthL, List.cons_append, List.nil_append]; rfl) ?_
  repeat (go_big_quiet_step (fail))
  refine wpQuiet_nil ?_
  refine wpS_alloc (i := 6) (dd := 5) (z := rgV noR (.slice none 0 0)) (cs := (rgC noR (.slice none 0 0)).toArray) rfl (by rfl) rfl (by kernel_rfl) rfl HM45.out covS_nil rfl ?_
  rintro b48 W47 hm46 -
  have HM49 := Lib.hid hm46
  clear hm46
  simp only [Act.put, List.setIfInBounds_toArray, List.set_cons_succ, List.set_cons_zero]
  refine wpS_storeA (i := 7) (L2 := [_, _, _, _, _, _, _, _]) (cs' := rgC (noR) (.slice pz 0 cz)) rfl (by rfl) rfl rfl rfl (by kernel_rfl) (rgC_one _ _ _) HM49.out 0 rfl rfl (by kernel_rfl) (by kernel_rfl) covS_nil rfl ?_
  rintro W51 hm50 -
  have HM52 := Lib.hid hm50
  clear hm50
  refine wpS_this [8] rfl (by kernel_rfl) (by simp only [pickL, nthL, List.cons_append, List.nil_append]; rfl) ?_
  repeat (go_big_quiet_step (fail))
  refine wpQuiet_nil ?_
  refine wpS_nil ?_
  refine then_normal ?_
  refine wp_seq ?_
  refine wp_region_N [(0, 1), (1, 1), (2, 1), (3, 1), (4, 1), (5, 1), (6, 1), (7, 1), (8, 1), (9, 1), (10, 1), (11, 1), (12, 1), (13, 1), (14, 1), (15, 1), (16, 3), (17, 1), (18, 1), (19, 1), (20, 1), (21, 1), (22, 1), (23, 1)] (by kernel_rfl) ?_
  refine wpS_this [0, 1, 2, 3, 4] rfl (by kernel_rfl) (by simp only [pickL, nthL, List.cons_append, List.nil_append]; rfl) ?_
  repeat (go_big_quiet_step (fail))
  refine wpQuiet_nil ?_
  refine wpS_load1 (i := 5) (d := some 33) (u := _) rfl (by rfl) rfl rfl (HM52.out.sub1 4 rfl (rgC_pl 0 _ rfl)) Try.underlying3 rfl rfl ?_
  simp only [Act.put, List.setIfInBounds_toArray, List.set_cons_succ, List.set_cons_zero]
  refine wpS_this [6, 7, 8, 9] rfl (by kernel_rfl) (by simp only [pickL, nthL, List.cons_append, List.nil_append]; rfl) ?_
  repeat (go_big_quiet_step (fail))
  refine wpQuiet_nil ?_
  refine wpS_read (i := 10) (d := some 38) rfl (by rfl) (run_addrSt (show (1 : Nat) < 8 by decide) rfl rfl rfl) rfl ?_
  simp only [Act.put, List.setIfInBounds_toArray, List.set_cons_succ, List.set_cons_zero]
  refine wpS_load1 (i := 11) (d := some 39) (u := _) rfl (by rfl) rfl rfl (HM52.out.sub1 4 rfl (rgC_s (show (1 : Nat) < 8 by decide))) Try.underlying3 rfl rfl ?_
  simp only [Act.put, List.setIfInBounds_toArray, List.set_cons_succ, List.set_cons_zero]
  refine wpS_this [12, 13, 14] rfl (by kernel_rfl) (by simp only [pickL, nthL, List.cons_append, List.nil_append]; rfl) ?_
  repeat (go_big_quiet_step (fail))
  refine wpQuiet_nil ?_
  refine wpS_loadA (i := 15) (d := some 43) (cells := rgC (s) (.slice ps s.p.2.2.length cs)) rfl (by rfl) rfl rfl (HM52.out.sub 4 rfl (fun k u h => by rw [Nat.zero_add]; exact h)) Try.underlying30 rfl (by kernel_rfl) rfl ?_
  simp only [Act.put, List.setIfInBounds_toArray, List.set_cons_succ, List.set_cons_zero]
  refine wpS_does2 (i := 16) (d := some 44) (rem := [_, _, _, _, _, _, _, _]) (out := [_, _, _, _, _, _, _, _, _]) rfl (by rfl) rfl Try.call16 (gtarget_d (rowT elemI _ _) _ s rowT_reads hsl 8) rfl rfl HM52.out [2] rfl covS_nil rfl rfl ?_
  rintro W54 hm53 -
  rw [ht8.out]
  have HM55 := Lib.hid hm53
  clear hm53
  simp only [Act.put, List.setIfInBounds_toArray, List.set_cons_succ, List.set_cons_zero]
  refine wpS_this [17, 18, 19, 20, 21, 22, 23] rfl (by kernel_rfl) (by simp only [pickL, nthL, List.cons_append, List.nil_append]; rfl) ?_
  repeat (go_big_quiet_step (fail))
  refine wpQuiet_nil ?_
  refine wpS_nil ?_
  refine then_normal ?_
  refine wp_ret ?_
  refine bodyPost_ret (results_tmp rfl _ _ _) rfl ?_
  exact does_ret (Mem.only (M := []) HM55.out [] rfl) rfl rfl

end Go.Proofs.Ytdfmfcbeebfdhaa
