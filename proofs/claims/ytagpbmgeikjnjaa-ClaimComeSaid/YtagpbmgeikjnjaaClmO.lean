/- ClaimOrder: its walk. -/
import Derived.Test.YtagpbmgeikjnjaaClmL1
import Derived.Test.YtagpbmgeikjnjaaClmNew
namespace Go.Proofs.Ytagpbmgeikjnjaa
open Go Go.RowKit Go.BigFrame

theorem src_drop {W : World} {p : Option Addr} {n cap m : Nat} {l : List Int} (h : SrcE elemI W (.slice p n cap) l) (hm : m ≤ l.length) : SrcE elemI W (.slice (if cap = m then p else p.map fun x => x.add m) (n - m) (cap - m)) (l.drop m) := by
  have h1 := h.drop hm
  rwa [show m * elemI.k = m from Nat.mul_one m] at h1
theorem asc_ext {A B : List Int} (hA : Asc A) (hB : Asc B) (h : ∀ x, x ∈ A ↔ x ∈ B) : A = B := by
  rw [hA, hB]
  refine List.filter_congr fun x _ => ?_
  rw [Bool.eq_iff_iff, List.contains_iff_mem, List.contains_iff_mem]
  exact h x
theorem peers_turn (ms : List Int) (k : Nat) : peersOf ([-1, 8, 99] ++ ms.drop k ++ ms ++ ms.take k) (-1) = peersOf ms (-1) := by
  refine asc_ext (peersOf_asc _) (peersOf_asc _) fun x => ?_
  rw [peersOf_mem, peersOf_mem]
  simp only [List.mem_append, List.mem_cons, List.not_mem_nil, or_false]
  constructor
  · rintro ⟨h1, h2, h3⟩
    refine ⟨h1, ?_, h3⟩
    rcases h2 with ((h | h) | h) | h
    · omega
    · exact List.mem_of_mem_drop h
    · exact h
    · exact List.mem_of_mem_take h
  · rintro ⟨h1, h2, h3⟩
    exact ⟨h1, .inl (.inr h2), h3⟩
theorem peers_of_asc {M : List Int} (h : Asc M) : peersOf M (-1) = M := by
  refine asc_ext (peersOf_asc _) h fun x => ?_
  rw [peersOf_mem]
  constructor
  · exact fun h => h.2.1
  · intro hx
    have h1 : x ∈ (nodesK 8).filter fun n => M.contains n := h ▸ hx
    obtain ⟨j, hj, rfl⟩ := List.mem_map.1 (List.mem_filter.1 h1).1
    have := List.mem_range.1 hj
    exact ⟨⟨by omega, by omega⟩, hx, by omega⟩
theorem asc_filter {M : List Int} (h : Asc M) (g : Int → Bool) : Asc (M.filter g) := by
  unfold Asc
  conv => lhs; rw [h]
  rw [List.filter_filter]
  refine List.filter_congr fun x _ => ?_
  rw [Bool.eq_iff_iff, Bool.and_eq_true, List.contains_iff_mem, List.contains_iff_mem, List.mem_filter]
  exact And.comm
theorem asc_ok {M : List Int} (h : Asc M) : MemOk M := by
  have := peersOf_ok M (-1)
  rwa [peers_of_asc h] at this
theorem asc_set {M : List Int} (h : Asc M) : ∃ b0 b1 b2 b3 b4 b5 b6 b7 : Bool, M = setB b0 b1 b2 b3 b4 b5 b6 b7 := by
  refine ⟨M.contains 0, M.contains 1, M.contains 2, M.contains 3, M.contains 4, M.contains 5, M.contains 6, M.contains 7, ?_⟩
  conv => lhs; rw [h, show nodesK 8 = [0, 1, 2, 3, 4, 5, 6, 7] from rfl]
  simp only [List.filter_cons, List.filter_nil]
  unfold setB
  cases M.contains 0 <;> cases M.contains 1 <;> cases M.contains 2 <;> cases M.contains 3 <;> cases M.contains 4 <;> cases M.contains 5 <;> cases M.contains 6 <;> cases M.contains 7 <;> rfl
theorem new_ok {M : List Int} (h : Asc M) : newOk M = true := by
  obtain ⟨b0, b1, b2, b3, b4, b5, b6, b7, rfl⟩ := asc_set h
  exact new_all b0 b1 b2 b3 b4 b5 b6 b7
theorem new_first {M O : List Int} (h : Asc M) (hO : assignOf [] M = O) (hl : O.length = 16) (hM : M ≠ []) : ∃ z, O[0]? = some z ∧ M[0]? = some z := by
  have h1 := new_ok h
  unfold newOk at h1
  rw [hO] at h1
  cases M with
  | nil => exact absurd rfl hM
  | cons m M =>
    simp only [List.isEmpty_cons, Bool.false_or, Bool.and_eq_true, beq_iff_eq, List.headD_cons] at h1
    exact ⟨m, by rw [← h1.1]; exact atL_some (by omega), rfl⟩
theorem new_unlike {M O : List Int} (h : Asc M) (hO : assignOf [] M = O) (_hl : O.length = 16) (hM : M ≠ []) (h3 : 3 ≤ M.length) {p : Nat} (hp : p + 1 + M.length < 16) {x y : Int} (hx : O[p + 1]? = some x) (hy : O[p]? = some y) : x ≠ y := by
  have h1 := new_ok h
  unfold newOk at h1
  rw [hO, Bool.or_eq_true, Bool.and_eq_true, Bool.or_eq_true] at h1
  rcases h1 with h1 | ⟨_, h1 | h1⟩
  · exact absurd (List.isEmpty_iff.1 h1) hM
  · exact absurd (of_decide_eq_true h1) (by omega)
  · have h2 := List.all_eq_true.1 h1 (p + 1) (List.mem_range.2 (by omega))
    rw [Bool.or_eq_true, Bool.or_eq_true] at h2
    rcases h2 with (h2 | h2) | h2
    · exact absurd (beq_iff_eq.1 h2) (by omega)
    · exact absurd (of_decide_eq_true h2) (by omega)
    · rw [Nat.add_sub_cancel, atL_of hx, atL_of hy] at h2
      simpa using h2
theorem moves_all {a b : List Int} (h : ∀ p, p < 16 → atL a p ≠ atL b p) : movesOf a b = 16 := by
  unfold movesOf
  rw [List.countP_eq_length.2 (fun p hp => by simpa using h p (List.mem_range.1 hp)), List.length_range]
theorem moves_nil {O : List Int} {now M : List Int} (hok : MemOk M) (hA : Assigned now M O) : movesOf [] O = 16 := moves_all fun p hp e => by
  have h1 := hok.ne _ (hA.each p _ (atL_some (by rw [hA.len]; exact hp)))
  exact h1 (e.symm.trans (atL_nil p))
theorem mod_small (m : Int) (hm : 1 ≤ m) (hm2 : m ≤ 1000) (n : Int) : ∃ k : Nat, (k : Int) < m ∧ wrap64 ((IntKind.u64.wrap n).tmod m) = (k : Int) := by
  have h0 : 0 ≤ IntKind.u64.wrap n := by
    unfold IntKind.wrap
    simp only [IntKind.signed, IntKind.bits, Bool.false_and, Bool.false_eq_true, if_false]
    exact Int.emod_nonneg _ (by decide)
  rw [Int.tmod_eq_emod_of_nonneg h0]
  have h1 := Int.emod_nonneg (IntKind.u64.wrap n) (show m ≠ 0 by omega)
  have h2 := Int.emod_lt_of_pos (IntKind.u64.wrap n) (show 0 < m by omega)
  obtain ⟨r, hr⟩ : ∃ r, IntKind.u64.wrap n % m = r := ⟨_, rfl⟩
  rw [hr] at h1 h2 ⊢
  refine ⟨r.toNat, by omega, ?_⟩
  unfold wrap64
  omega
set_option maxHeartbeats 4000000 in
set_option maxRecDepth 100000 in
theorem order_d (tn : Int) (W0 : World) (vnow : Value) (vms : Value) (now : List Int) (ms : List Int) (hnow : RowAt elemI W0 vnow now) (hms : RowAt elemI W0 vms ms) (hsms' : SrcE elemI W0 vms ms) : Does Try.prog 7 #[vnow, vms, .int .i64 tn] [oldT W0] (.bool true) [oldT W0] := by
  intro w H hp
  have HM0 := Lib.hid (mem_refl hp)
  clear hp
  have hsms := hsms'
  clear hsms'
  obtain ⟨pnow, cnow, rfl⟩ := rd_form hnow
  obtain ⟨pms, cms, rfl⟩ := rd_form hms
  go_enter Try.func7, Try.ntmps7
  refine wp_seq ?_
  refine wp_region_N [(0, 1)] (by kernel_rfl) ?_
  refine wpS_this [0] rfl (by kernel_rfl) (by simp only [pickL, nthL, List.cons_append, List.nil_append]; rfl) ?_
  repeat (go_big_quiet_step (fail))
  refine wpQuiet_nil ?_
  refine wpS_nil ?_
  refine then_normal ?_
  refine wp_seq ?_
  refine wp_seq ?_
  cases hfw : fewB [⟨pnow, now.length, cnow⟩, ⟨pms, ms.length, cms⟩]
  · skip
    refine wp_region_N [(0, 1), (1, 1), (2, 3), (3, 3), (4, 1)] (by kernel_rfl) ?_
    refine wpS_this [0, 1] rfl (by kernel_rfl) (by simp only [pickL, nthL, List.cons_append, List.nil_append]; rfl) ?_
    repeat (go_big_quiet_step (fail))
    refine wpQuiet_nil ?_
    refine wpS_buildN elemS (i := 2) (dd := 11) (n := 2) (xs := [⟨pnow, now.length, cnow⟩, ⟨pms, ms.length, cms⟩]) (cs := #[.slice pnow now.length cnow, .slice pms ms.length cms]) rfl (by rfl) (fun _ => by kernel_rfl) rfl rfl HM0.out covS_nil rfl ?_
    rintro b3 W4 hm5 -
    have HM6 := Lib.hid hm5
    clear hm5
    simp only [Act.put, List.setIfInBounds_toArray, List.set_cons_succ, List.set_cons_zero]
    refine wpS_does1 (i := 3) (d := some 12) (rem := [_]) (out := [_, _]) rfl (by rfl) rfl Try.call10 (few_d (rowT elemS _ _) _ [⟨pnow, now.length, cnow⟩, ⟨pms, ms.length, cms⟩] rowS (by simp)) rfl HM6.out [0] rfl covS_nil rfl rfl ?_
    rintro W8 hm7 -
    rw [hfw]
    have HM9 := Lib.hid hm7
    clear hm7
    simp only [Act.put, List.setIfInBounds_toArray, List.set_cons_succ, List.set_cons_zero]
    refine wpS_this [4] rfl (by kernel_rfl) (by simp only [pickL, nthL, List.cons_append, List.nil_append]; rfl) ?_
    repeat (go_big_quiet_step (fail))
    refine wpQuiet_nil ?_
    refine wpS_nil ?_
    refine then_normal ?_
    refine wp_cond_true rfl ?_
    refine wp_seq ?_
    refine wp_region_N [(0, 3), (1, 1)] (by kernel_rfl) ?_
    refine wpS_does0 (i := 0) (d := some 14) (rem := [_, _]) (out := [_, _]) rfl (by rfl) rfl Try.call11 (awake_d)  HM9.out [] rfl covS_nil rfl rfl ?_
    rintro W11 hm10 -
    have HM12 := Lib.hid hm10
    clear hm10
    simp only [Act.put, List.setIfInBounds_toArray, List.set_cons_succ, List.set_cons_zero]
    refine wpS_this [1] rfl (by kernel_rfl) (by simp only [pickL, nthL, List.cons_append, List.nil_append]; rfl) ?_
    repeat (go_big_quiet_step (fail))
    refine wpQuiet_nil ?_
    refine wpS_nil ?_
    refine then_normal ?_
    refine wp_ret ?_
    refine then_ret ?_
    refine bodyPost_ret (results_tmp rfl _ _ _) rfl ?_
    exact does_ret (Mem.only (M := [_]) HM12.out [1] rfl) rfl rfl
  · have hbb : now.length ≤ 100 ∧ ms.length ≤ 100 := by simpa [fewB] using hfw
    obtain ⟨hbnow, hbms⟩ := hbb
    refine wp_region_N [(0, 1), (1, 1), (2, 3), (3, 3), (4, 1)] (by kernel_rfl) ?_
    refine wpS_this [0, 1] rfl (by kernel_rfl) (by simp only [pickL, nthL, List.cons_append, List.nil_append]; rfl) ?_
    repeat (go_big_quiet_step (fail))
    refine wpQuiet_nil ?_
    refine wpS_buildN elemS (i := 2) (dd := 11) (n := 2) (xs := [⟨pnow, now.length, cnow⟩, ⟨pms, ms.length, cms⟩]) (cs := #[.slice pnow now.length cnow, .slice pms ms.length cms]) rfl (by rfl) (fun _ => by kernel_rfl) rfl rfl HM0.out covS_nil rfl ?_
    rintro b15 W16 hm17 -
    have HM18 := Lib.hid hm17
    clear hm17
    simp only [Act.put, List.setIfInBounds_toArray, List.set_cons_succ, List.set_cons_zero]
    refine wpS_does1 (i := 3) (d := some 12) (rem := [_]) (out := [_, _]) rfl (by rfl) rfl Try.call10 (few_d (rowT elemS _ _) _ [⟨pnow, now.length, cnow⟩, ⟨pms, ms.length, cms⟩] rowS (by simp)) rfl HM18.out [0] rfl covS_nil rfl rfl ?_
    rintro W20 hm19 -
    rw [hfw]
    have HM21 := Lib.hid hm19
    clear hm19
    simp only [Act.put, List.setIfInBounds_toArray, List.set_cons_succ, List.set_cons_zero]
    refine wpS_this [4] rfl (by kernel_rfl) (by simp only [pickL, nthL, List.cons_append, List.nil_append]; rfl) ?_
    repeat (go_big_quiet_step (fail))
    refine wpQuiet_nil ?_
    refine wpS_nil ?_
    refine then_normal ?_
    refine wp_cond_false rfl ?_
    refine wp_skip ?_
    refine then_normal ?_
    refine wp_seq ?_
    obtain ⟨kk, hkl, hmod'⟩ := mod_small ((ms.length : Int) + 1) (by omega) (by omega) tn
    · have hkk : kk ≤ ms.length := by omega
      clear hkl
      have hmod := Lib.hid hmod'
      clear hmod'
      refine wp_region_N [(0, 1), (1, 1), (2, 1), (3, 1), (4, 1), (5, 1), (6, 1), (7, 1), (8, 1)] (by kernel_rfl) ?_
      refine wpS_this [0, 1, 2, 3, 4, 5, 6, 7, 8] rfl (by kernel_rfl) (by simp only [pickL, nthL, List.cons_append, List.nil_append]; rfl) ?_
      repeat (go_big_quiet_step (fail))
      refine wpQuiet_nil ?_
      refine wpS_nil ?_
      refine then_normal ?_
      refine wp_seq ?_
      skip
      · rw [hmod.out]
        have hxl : Hid (([-1, 8, 99] ++ ms.drop kk ++ ms ++ ms.take kk).length ≤ 1000) := Lib.hid (by simp only [List.length_append, List.length_cons, List.length_nil, List.length_drop, List.length_take]; omega)
        obtain ⟨hcap, hlc⟩ := src_cap hsms
        clear hlc
        refine wp_region_M (fun k => k ∈ ([] : List Nat)) [(1, 0), (2, 0), (3, 0), (5, 0), (7, 0), (8, 0), (9, 0), (0, 3), (4, 3), (6, 3), (10, 3), (11, 1)] (by kernel_rfl) (by kernel_rfl) HM21.out ?_
        intro W22 hm23
        have HM24 := Lib.hid hm23
        clear hm23
        refine wpS_all [1, 2, 3, 5, 7, 8, 9] rfl (by kernel_rfl) (by simp only [pickL, nthL, List.cons_append, List.nil_append]; rfl) ?_
        repeat (go_big_quiet_step (fail))
        refine wpQuiet_nil ?_
        refine wpS_buildN elemI (i := 0) (dd := 23) (n := 3) (xs := [-1, 8, 99]) (cs := #[.int .i64 (-1), .int .i64 8, .int .i64 99]) rfl (by rfl) (fun _ => by kernel_rfl) rfl rfl HM24.out covS_nil rfl ?_
        rintro b27 W28 hm29 -
        have HM30 := Lib.hid hm29
        clear hm29
        simp only [Act.put, List.setIfInBounds_toArray, List.set_cons_succ, List.set_cons_zero]
        refine wpS_append (E := elemI) (i := 4) (d := some 27) (L2 := [_, _]) rfl (by rfl) rfl HM30.out 0 rfl rfl ((src_drop (m := kk) (HM30.out.have 2 rfl fun H h => OldA.src h hsms) (by omega))) rfl (by simp only [List.length_cons, List.length_nil, List.length_drop]; show _ * 8 ≤ _; omega) rfl covS_nil rfl ?_
        rintro u33 W34 hm35 -
        have HM36 := Lib.hid hm35
        clear hm35
        simp only [Act.put, List.setIfInBounds_toArray, List.set_cons_succ, List.set_cons_zero]
        refine wpS_append (E := elemI) (i := 6) (d := some 29) (L2 := [_, _]) rfl (by rfl) rfl HM36.out 0 rfl rfl ((HM36.out.have 2 rfl fun H h => OldA.src h hsms)) rfl (by simp only [List.length_append, List.length_cons, List.length_nil, List.length_drop]; show _ * 8 ≤ _; omega) rfl covS_nil rfl ?_
        rintro u39 W40 hm41 -
        have HM42 := Lib.hid hm41
        clear hm41
        simp only [Act.put, List.setIfInBounds_toArray, List.set_cons_succ, List.set_cons_zero]
        refine wpS_append (E := elemI) (i := 10) (d := some 33) (L2 := [_, _]) rfl (by rfl) rfl HM42.out 0 rfl rfl (((HM42.out.have 2 rfl fun H h => OldA.src h hsms).take (m := kk) (by omega))) rfl (by simp only [List.length_append, List.length_cons, List.length_nil, List.length_drop, List.length_take]; show _ * 8 ≤ _; omega) rfl covS_nil rfl ?_
        rintro u45 W46 hm47 -
        have HM48 := Lib.hid hm47
        clear hm47
        simp only [Act.put, List.setIfInBounds_toArray, List.set_cons_succ, List.set_cons_zero]
        refine wpS_this [11] rfl (by kernel_rfl) (by simp only [pickL, nthL, List.cons_append, List.nil_append]; rfl) ?_
        repeat (go_big_quiet_step (fail))
        refine wpQuiet_nil ?_
        refine wpS_nil ?_
        refine then_normal ?_
        refine wp_seq ?_
        refine wp_region_N [(0, 1), (1, 1), (2, 3), (3, 1), (4, 1), (5, 3), (6, 3), (7, 1), (8, 1), (9, 1), (10, 3), (11, 1), (12, 1), (13, 3), (14, 3), (15, 1), (16, 1), (17, 1), (18, 3), (19, 1), (20, 3), (21, 3), (22, 1), (23, 1), (24, 3), (25, 1), (26, 1)] (by kernel_rfl) ?_
        refine wpS_this [0, 1] rfl (by kernel_rfl) (by simp only [pickL, nthL, List.cons_append, List.nil_append]; rfl) ?_
        repeat (go_big_quiet_step (fail))
        refine wpQuiet_nil ?_
        refine wpS_doesU2 (i := 2) (d := some 36) (rem := [_]) rfl (by rfl) rfl Try.call17 (DoesU.ofList (assign_d (listT [_, _]) _ _ now ([-1, 8, 99] ++ ms.drop kk ++ ms ++ ms.take kk) (rowL 1 rfl (rowOld hnow)) (rowL 0 rfl rowOwn) (by have := hxl.out; omega))) rfl rfl HM48.out [0, 1] rfl covS_nil (fun _ => rfl) rfl ?_
        rintro u51 W50 hm49 -
        rw [peers_turn] at hm49
        have HM52 := Lib.hid hm49
        clear hm49
        simp only [Act.put, List.setIfInBounds_toArray, List.set_cons_succ, List.set_cons_zero]
        refine wpS_this [3, 4] rfl (by kernel_rfl) (by simp only [pickL, nthL, List.cons_append, List.nil_append]; rfl) ?_
        repeat (go_big_quiet_step (fail))
        refine wpQuiet_nil ?_
        refine wpS_doesU2 (i := 5) (d := some 39) (rem := [_, _, _]) rfl (by rfl) rfl Try.call17 (assign_d (oldT W0) _ _ now ms (rowOld hnow) (rowOld hms) (by omega)) rfl rfl HM52.out [2] rfl covS_nil (fun _ => rfl) rfl ?_
        rintro u55 W54 hm53 -
        have HM56 := Lib.hid hm53
        clear hm53
        simp only [Act.put, List.setIfInBounds_toArray, List.set_cons_succ, List.set_cons_zero]
        refine wpS_does2 (i := 6) (d := some 40) (rem := [_, _, _]) (out := [_, _, _, _, _]) rfl (by rfl) rfl Try.call12 (Does.ofList (same_t (listT [_, _]) _ _ _ (rowL 0 rfl rdRow_reads) (rowL 1 rfl rdRow_reads) (a_le now ms))) rfl rfl HM56.out [2, 0] rfl covS_nil rfl rfl ?_
        rintro W58 hm57 -
        have HM59 := Lib.hid hm57
        clear hm57
        simp only [Act.put, List.setIfInBounds_toArray, List.set_cons_succ, List.set_cons_zero]
        refine wpS_this [7, 8, 9] rfl (by kernel_rfl) (by simp only [pickL, nthL, List.cons_append, List.nil_append]; rfl) ?_
        repeat (go_big_quiet_step (fail))
        refine wpQuiet_nil ?_
        refine wpS_doesU2 (i := 10) (d := some 44) (rem := [_, _, _]) rfl (by rfl) rfl Try.call15 (DoesU.ofList (quotas_d (listT [_, _]) _ _ now ([-1, 8, 99] ++ ms.drop kk ++ ms ++ ms.take kk) (rowL 1 rfl (rowOld hnow)) (rowL 0 rfl rowOwn) (by have := hxl.out; omega))) rfl rfl HM59.out [3, 2] rfl covS_nil (fun _ => rfl) rfl ?_
        rintro u62 W61 hm60 -
        rw [peers_turn] at hm60
        have HM63 := Lib.hid hm60
        clear hm60
        simp only [Act.put, List.setIfInBounds_toArray, List.set_cons_succ, List.set_cons_zero]
        refine wpS_this [11, 12] rfl (by kernel_rfl) (by simp only [pickL, nthL, List.cons_append, List.nil_append]; rfl) ?_
        repeat (go_big_quiet_step (fail))
        refine wpQuiet_nil ?_
        refine wpS_doesU2 (i := 13) (d := some 47) (rem := [_, _, _, _, _]) rfl (by rfl) rfl Try.call15 (quotas_d (oldT W0) _ _ now ms (rowOld hnow) (rowOld hms) (by omega)) rfl rfl HM63.out [2] rfl covS_nil (fun _ => rfl) rfl ?_
        rintro u66 W65 hm64 -
        have HM67 := Lib.hid hm64
        clear hm64
        simp only [Act.put, List.setIfInBounds_toArray, List.set_cons_succ, List.set_cons_zero]
        refine wpS_does2 (i := 14) (d := some 48) (rem := [_, _, _, _, _]) (out := [_, _, _, _, _, _, _]) rfl (by rfl) rfl Try.call12 (Does.ofList (same_t (listT [_, _]) _ _ _ (rowL 0 rfl rowOwn) (rowL 1 rfl rowOwn) (q_le now ms))) rfl rfl HM67.out [2, 0] rfl covS_nil rfl rfl ?_
        rintro W69 hm68 -
        have HM70 := Lib.hid hm68
        clear hm68
        simp only [Act.put, List.setIfInBounds_toArray, List.set_cons_succ, List.set_cons_zero]
        refine wpS_this [15, 16, 17] rfl (by kernel_rfl) (by simp only [pickL, nthL, List.cons_append, List.nil_append]; rfl) ?_
        repeat (go_big_quiet_step (fail))
        refine wpQuiet_nil ?_
        refine wpS_doesU1 (i := 18) (d := some 52) (rem := [_, _, _, _, _, _]) rfl (by rfl) rfl Try.call13 (members_d (rowT elemI _ ([-1, 8, 99] ++ ms.drop kk ++ ms ++ ms.take kk)) _ ([-1, 8, 99] ++ ms.drop kk ++ ms ++ ms.take kk) rowOwn (by have := hxl.out; omega)) rfl HM70.out [3] rfl covS_nil (fun _ => rfl) rfl ?_
        rintro u73 W72 hm71 -
        rw [peers_turn] at hm71
        have HM74 := Lib.hid hm71
        clear hm71
        simp only [Act.put, List.setIfInBounds_toArray, List.set_cons_succ, List.set_cons_zero]
        refine wpS_this [19] rfl (by kernel_rfl) (by simp only [pickL, nthL, List.cons_append, List.nil_append]; rfl) ?_
        repeat (go_big_quiet_step (fail))
        refine wpQuiet_nil ?_
        refine wpS_doesU1 (i := 20) (d := some 54) (rem := [_, _, _, _, _, _, _]) rfl (by rfl) rfl Try.call13 (members_d (oldT W0) _ ms (rowOld hms) (by omega)) rfl HM74.out [4] rfl covS_nil (fun _ => rfl) rfl ?_
        rintro u77 W76 hm75 -
        have HM78 := Lib.hid hm75
        clear hm75
        simp only [Act.put, List.setIfInBounds_toArray, List.set_cons_succ, List.set_cons_zero]
        refine wpS_does2 (i := 21) (d := some 55) (rem := [_, _, _, _, _, _, _]) (out := [_, _, _, _, _, _, _, _, _]) rfl (by rfl) rfl Try.call12 (Does.ofList (same_t (listT [_, _]) _ _ _ (rowL 0 rfl rowOwn) (rowL 1 rfl rowOwn) (p_le ms))) rfl rfl HM78.out [2, 0] rfl covS_nil rfl rfl ?_
        rintro W80 hm79 -
        have HM81 := Lib.hid hm79
        clear hm79
        simp only [Act.put, List.setIfInBounds_toArray, List.set_cons_succ, List.set_cons_zero]
        refine wpS_this [22, 23] rfl (by kernel_rfl) (by simp only [pickL, nthL, List.cons_append, List.nil_append]; rfl) ?_
        repeat (go_big_quiet_step (fail))
        refine wpQuiet_nil ?_
        refine wpS_does0 (i := 24) (d := some 58) (rem := [_, _, _, _, _, _, _, _, _]) (out := [_, _, _, _, _, _, _, _, _]) rfl (by rfl) rfl Try.call11 (awake_d)  HM81.out [] rfl covS_nil rfl rfl ?_
        rintro W83 hm82 -
        have HM84 := Lib.hid hm82
        clear hm82
        simp only [Act.put, List.setIfInBounds_toArray, List.set_cons_succ, List.set_cons_zero]
        refine wpS_this [25, 26] rfl (by kernel_rfl) (by simp only [pickL, nthL, List.cons_append, List.nil_append]; rfl) ?_
        repeat (go_big_quiet_step (fail))
        refine wpQuiet_nil ?_
        refine wpS_nil ?_
        refine then_normal ?_
        refine wp_ret ?_
        refine bodyPost_ret (results_tmp rfl _ _ _) rfl ?_
        exact does_ret (Mem.only (M := [_]) HM84.out [2] rfl) rfl rfl

end Go.Proofs.Ytagpbmgeikjnjaa
