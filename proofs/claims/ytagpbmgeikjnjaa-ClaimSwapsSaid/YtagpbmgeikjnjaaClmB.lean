/- The reference's Quotas. -/
import Derived.Test.YtagpbmgeikjnjaaClmA
import Derived.Test.YtagpbmgeikjnjaaClmQ
import Derived.Test.YtagpbmgeikjnjaaRfPeers
import Derived.LoopN
namespace Go.Proofs.Ytagpbmgeikjnjaa
open Go Go.RowKit Go.BigFrame

theorem rounds_step {P : Program} {c : Code} {Q : Exit → Act → World → Prop} {n : Nat} {a : Act} {w : World} (h : c.wp P (Exit.then (Code.rounds P c Q n) Q) a w) : Code.rounds P c Q (n + 1) a w := h
theorem row_zeroE {W : World} {e : TypeId} {size n base : Nat} {v : Value} {xs : List Value} (h : W.ownsRow base e size v n xs) : W.ownsRow 0 e size v n xs := by
  refine ⟨h.1, ?_⟩
  rcases h.2 with h2 | ⟨g, cap, cur, rfl, _, rest⟩
  · exact .inl h2
  · exact .inr ⟨g, cap, cur, rfl, Nat.zero_le _, rest⟩
theorem peersF_nodup (f : Nat → Bool) (k : Nat) : (peersF f k).Nodup := by
  unfold peersF
  rw [List.Nodup, List.pairwise_map]
  refine List.Pairwise.sublist List.filter_sublist ?_
  exact List.Pairwise.imp (fun {a b} h => by omega) List.nodup_range
theorem peersOf_nodup (l : List Int) (self : Int) : (peersOf l self).Nodup := peersF_nodup _ _
theorem peersOf_mem {l : List Int} {self x : Int} : x ∈ peersOf l self ↔ (0 ≤ x ∧ x < 8) ∧ x ∈ l ∧ x ≠ self := by
  unfold peersOf peersF isPeer
  simp only [List.mem_map, List.mem_filter, List.mem_range, Bool.and_eq_true, List.contains_eq_mem, decide_eq_true_eq, Bool.not_eq_true', beq_eq_false_iff_ne, ne_eq]
  constructor
  · rintro ⟨j, ⟨hj, h1, h2⟩, rfl⟩
    exact ⟨⟨by omega, by omega⟩, h1, h2⟩
  · rintro ⟨⟨h0, h8⟩, h1, h2⟩
    exact ⟨x.toNat, ⟨by omega, by rw [show ((x.toNat : Nat) : Int) = x from by omega]; exact h1, by rw [show ((x.toNat : Nat) : Int) = x from by omega]; exact h2⟩, by omega⟩

theorem cellsI_elem : ∀ l : List Int, cellsI l = elemI.cells l
  | [] => rfl
  | x :: l => by rw [Elem.cells_cons, ← cellsI_elem l]; rfl
theorem SEnd.madeI {P : Asn} {H0 : Nat → Prop} {w W W' : World} {u : Value} {l : List Int} (hP : Owns P) (h : SEnd P H0 w W) (hm : MadeI W W' u l) : SEnd (star (rowT elemI u l).p P) H0 w W' := by
  obtain ⟨hr, hb⟩ := hm
  rw [cellsI_elem] at hr
  exact SEnd.fresh (HQ := fun k => u.ownBlock = some k) hP (rowT elemI u l).owns h hb ⟨row_zeroE hr, fun _ => .rfl⟩ fun k hk => (hr.lt k hk).1
theorem ints_rowAt {W : World} {v : Value} {l : List Int} (h : RowAt elemI W v l) : IntsAt W v l := by
  rcases h with ⟨h1, h2⟩ | ⟨b, o, cap, hv, hlt, hc⟩
  · exact .inl ⟨h1, h2⟩
  · refine .inr ⟨b, o, cap, hv, hlt, fun k x hk => ?_⟩
    have := hc k x hk 0 (.int .i64 x) rfl
    rwa [show o + k * elemI.k + 0 = o + k from by show o + k * 1 + 0 = o + k; omega] at this
theorem rowAt_src {P : Program} {α : Type} {E : Elem P α} {W : World} {v : Value} {l : List α} (h : SrcE E W v l) : RowAt E W v l := h.1
theorem rpeers_d (R : At) (v : Value) (l : List Int) (self : Int) (hR : ∀ W H, R.p W H → RowAt elemI W v l) (hl : l.length ≤ 1000) : DoesU Try.prog 14 #[v, .int .i64 self] [R] fun u => [rowT elemI u (peersOf l self), R] := fun W H hs =>
  (refPeers_any v l self W (ints_rowAt (hR W H (emp_right hs))) (by omega)).mono fun _ _ ⟨u, he, hm⟩ => ⟨u, he, SEnd.madeI (stars_owns [R]) (sEnd_refl hs) hm⟩
theorem peersOf_len8 (l : List Int) (self : Int) : (peersOf l self).length ≤ 8 := peersF_len _ 8
theorem peersOf_ok (l : List Int) (self : Int) : MemOk (peersOf l self) where
  nodup := peersOf_nodup l self
  node n hn := by
    unfold peersOf peersF at hn
    obtain ⟨j, hj, rfl⟩ := List.mem_map.1 hn
    have := List.mem_range.1 (List.mem_filter.1 hj).1
    omega
theorem bigsK_succ {now M : List Int} {k : Nat} {m : Int} (h : M[k]? = some m) : bigsK now M (k + 1) = bigsK now M k + (if bigB now (16 / M.length) m = true then 1 else 0) := countP_take h
theorem smallsK_succ {now M : List Int} {k : Nat} {m : Int} (h : M[k]? = some m) : smallsK now M (k + 1) = smallsK now M k + (if bigB now (16 / M.length) m = true then 0 else 1) := by
  have := countP_take (f := fun n => !bigB now (16 / M.length) n) h
  unfold smallsK
  rw [this]
  cases bigB now (16 / M.length) m <;> rfl
/-- Quotas, in a block of their own. -/
def quotaT (now M : List Int) (u : Value) : At := exT fun b => [prT (u = .slice (some ⟨b, 0, none⟩) M.length M.length), intsT b (quotasOf now M)]
theorem set_same {l : List Int} {k : Nat} {x : Int} (h : l[k]? = some x) : l.set k x = l := by
  obtain ⟨hk, e⟩ := List.getElem?_eq_some_iff.1 h
  rw [← e, List.set_getElem_self]
theorem hasK_le (now : List Int) (n : Int) (k : Nat) : hasK now n k ≤ k := by
  unfold hasK
  have := List.countP_le_length (p := fun p => atL now p == n) (l := List.range k)
  rwa [List.length_range] at this
set_option maxHeartbeats 4000000 in
set_option maxRecDepth 100000 in
theorem rquotas_d (R : At) (vn vm : Value) (now ms : List Int) (hN : ∀ W H, R.p W H → RowAt elemI W vn now) (hM : ∀ W H, R.p W H → RowAt elemI W vm ms) (hml : ms.length ≤ 1000) : DoesU Try.prog 16 #[vn, vm] [R] (fun u => [rowT elemI u (quotasOf now (peersOf ms (-1))), R]) := by
  intro w H hp
  have HM0 := Lib.hid (mem_refl hp)
  clear hp
  go_enter Try.func16, Try.ntmps16
  refine wp_seq ?_
  refine wp_region_N [(0, 1)] (by kernel_rfl) ?_
  refine wpS_this [0] rfl (by kernel_rfl) (by simp only [pickL, nthL, List.cons_append, List.nil_append]; rfl) ?_
  repeat (go_big_quiet_step (fail))
  refine wpQuiet_nil ?_
  refine wpS_nil ?_
  refine then_normal ?_
  refine wp_seq ?_
  refine wp_region_N [(0, 1), (1, 3), (2, 1)] (by kernel_rfl) ?_
  refine wpS_this [0] rfl (by kernel_rfl) (by simp only [pickL, nthL, List.cons_append, List.nil_append]; rfl) ?_
  repeat (go_big_quiet_step (fail))
  refine wpQuiet_nil ?_
  refine wpS_doesU2 (i := 1) (d := some 15) (rem := []) rfl (by rfl) rfl Try.call14 (rpeers_d R vm ms (-1) hM hml) rfl rfl HM0.out [0] rfl covS_nil (fun _ => rfl) rfl ?_
  rintro u3 W2 hm1 -
  obtain ⟨M, hMe'⟩ : ∃ x, peersOf ms (-1) = x := ⟨_, rfl⟩
  rw [hMe'] at hm1
  obtain ⟨mp, mc, rfl⟩ := row_form (Mem.src hm1 0 rfl rowT_reads)
  have hM8 : M.length ≤ 8 := by rw [← hMe']; exact peersOf_len8 _ _
  have hnd : Hid M.Nodup := Lib.hid (by rw [← hMe']; exact (peersOf_ok _ _).nodup)
  have hMe := Lib.hid hMe'
  clear hMe'
  have HM4 := Lib.hid hm1
  clear hm1
  simp only [Act.put, List.setIfInBounds_toArray, List.set_cons_succ, List.set_cons_zero]
  refine wpS_this [2] rfl (by kernel_rfl) (by simp only [pickL, nthL, List.cons_append, List.nil_append]; rfl) ?_
  repeat (go_big_quiet_step (fail))
  refine wpQuiet_nil ?_
  refine wpS_nil ?_
  refine then_normal ?_
  refine wp_seq ?_
  refine wp_seq ?_
  by_cases h0 : M.length = 0
  · have g1 : ((M.length : Int) == 0) = true := beq_iff_eq.2 (by omega)
    have h0e : M = [] := List.eq_nil_of_length_eq_zero h0
    refine wp_region_N [(0, 1), (1, 1), (2, 1)] (by kernel_rfl) ?_
    refine wpS_this [0, 1, 2] rfl (by kernel_rfl) (by simp only [pickL, nthL, List.cons_append, List.nil_append]; rfl) ?_
    repeat (go_big_quiet_step (fail))
    refine wpQuiet_nil ?_
    refine wpS_nil ?_
    refine then_normal ?_
    refine wp_cond_true rfl ?_
    refine wp_seq ?_
    refine wp_region_N [(0, 1)] (by kernel_rfl) ?_
    refine wpS_this [0] rfl (by kernel_rfl) (by simp only [pickL, nthL, List.cons_append, List.nil_append]; rfl) ?_
    repeat (go_big_quiet_step (fail))
    refine wpQuiet_nil ?_
    refine wpS_nil ?_
    refine then_normal ?_
    refine wp_ret ?_
    refine then_ret ?_
    refine bodyPost_ret (results_tmp rfl _ _ _) rfl ?_
    exact doesU_ret (post := fun u => [rowT elemI u (quotasOf now (peersOf ms (-1))), R]) (by rw [hMe.out, h0e]; exact Mem.nilRow elemI (Mem.only (M := [_]) HM4.out [1] rfl)) rfl
  · have g1 : ((M.length : Int) == 0) = false := beq_eq_false_iff_ne.2 (by omega)
    refine wp_region_N [(0, 1), (1, 1), (2, 1)] (by kernel_rfl) ?_
    refine wpS_this [0, 1, 2] rfl (by kernel_rfl) (by simp only [pickL, nthL, List.cons_append, List.nil_append]; rfl) ?_
    repeat (go_big_quiet_step (fail))
    refine wpQuiet_nil ?_
    refine wpS_nil ?_
    refine then_normal ?_
    refine wp_cond_false rfl ?_
    refine wp_skip ?_
    refine then_normal ?_
    refine wp_seq ?_
    refine wp_region_M (fun k => k ∈ ([] : List Nat)) [(0, 1), (1, 1), (2, 1), (3, 1), (4, 1), (5, 1), (6, 1), (7, 1)] (by kernel_rfl) (by kernel_rfl) HM4.out ?_
    intro W5 hm6
    have HM7 := Lib.hid hm6
    clear hm6
    refine wpS_this [0, 1, 2, 3, 4, 5, 6, 7] rfl (by kernel_rfl) (by simp only [pickL, nthL, List.cons_append, List.nil_append]; rfl) ?_
    repeat (go_big_quiet_step (fail))
    refine wpQuiet_nil ?_
    refine wpS_nil ?_
    refine then_normal ?_
    refine wp_seq ?_
    obtain ⟨bN, hbN'⟩ : ∃ b, 16 / M.length = b := ⟨_, rfl⟩
    obtain ⟨eN, heN'⟩ : ∃ e, 16 % M.length = e := ⟨_, rfl⟩
    have hbI : (16 : Int) / (M.length : Int) = (bN : Int) := by rw [← hbN']; simp
    have heI : (16 : Int) % (M.length : Int) = (eN : Int) := by rw [← heN']; simp
    rw [hbI, heI]
    obtain ⟨bI, hbi'⟩ : ∃ z : Int, (bN : Int) = z := ⟨_, rfl⟩
    rw [hbi']
    have hbi0 : 0 ≤ bI ∧ bI ≤ 16 := by rw [← hbi', ← hbN']; exact ⟨Int.natCast_nonneg _, by exact_mod_cast Nat.div_le_self 16 _⟩
    obtain ⟨hbi1, hbi2⟩ := hbi0
    have hbi := Lib.hid hbi'
    clear hbi'
    have hbN := Lib.hid hbN'
    have heN := Lib.hid heN'
    have hb16 : bN ≤ 16 := by rw [← hbN']; exact Nat.div_le_self _ _
    have he16 : eN ≤ 16 := by rw [← heN']; exact Nat.mod_le _ _
    clear hbI heI hbN' heN'
    refine wp_region_N [(0, 1), (1, 1), (2, 3), (3, 1)] (by kernel_rfl) ?_
    refine wpS_this [0, 1] rfl (by kernel_rfl) (by simp only [pickL, nthL, List.cons_append, List.nil_append]; rfl) ?_
    repeat (go_big_quiet_step (fail))
    refine wpQuiet_nil ?_
    refine wpS_makeI (i := 2) (dd := 27) (n := M.length) rfl (by rfl) rfl rfl rfl (by omega) HM7.out covS_nil rfl ?_
    rintro ob W11 hm10 -
    have HM12 := Lib.hid hm10
    clear hm10
    simp only [Act.put, List.setIfInBounds_toArray, List.set_cons_succ, List.set_cons_zero]
    refine wpS_this [3] rfl (by kernel_rfl) (by simp only [pickL, nthL, List.cons_append, List.nil_append]; rfl) ?_
    repeat (go_big_quiet_step (fail))
    refine wpQuiet_nil ?_
    refine wpS_nil ?_
    refine then_normal ?_
    refine wp_seq ?_
    refine wp_seq ?_
    refine wp_region_N [(0, 1)] (by kernel_rfl) ?_
    refine wpS_this [0] rfl (by kernel_rfl) (by simp only [pickL, nthL, List.cons_append, List.nil_append]; rfl) ?_
    repeat (go_big_quiet_step (fail))
    refine wpQuiet_nil ?_
    refine wpS_nil ?_
    refine then_normal ?_
    refine wp_block ?_
    refine wp_loop_rounds 3 ?_
    refine rounds_step ?_
    refine wp_seq ?_
    refine wp_region_N [(0, 1)] (by kernel_rfl) ?_
    refine wpS_this [0] rfl (by kernel_rfl) (by simp only [pickL, nthL, List.cons_append, List.nil_append]; rfl) ?_
    repeat (go_big_quiet_step (fail))
    refine wpQuiet_nil ?_
    refine wpS_nil ?_
    refine then_normal ?_
    refine wp_seq ?_
    refine wp_cond_true rfl ?_
    refine wp_skip ?_
    refine then_normal ?_
    refine wp_seq ?_
    refine wp_block ?_
    refine wp_seq ?_
    refine wp_region_N [(0, 1), (1, 1)] (by kernel_rfl) ?_
    refine wpS_this [0, 1] rfl (by kernel_rfl) (by simp only [pickL, nthL, List.cons_append, List.nil_append]; rfl) ?_
    repeat (go_big_quiet_step (fail))
    refine wpQuiet_nil ?_
    refine wpS_nil ?_
    refine then_normal ?_
    refine wp_seq ?_
    refine wp_region_N [(0, 1), (1, 1), (2, 1)] (by kernel_rfl) ?_
    refine wpS_this [0, 1, 2] rfl (by kernel_rfl) (by simp only [pickL, nthL, List.cons_append, List.nil_append]; rfl) ?_
    repeat (go_big_quiet_step (fail))
    refine wpQuiet_nil ?_
    refine wpS_nil ?_
    refine then_normal ?_
    refine wp_block ?_
    refine wp_loop_F [7, 10, 11, 12, 13, 33, 34, 35, 36, 37, 38, 39, 40, 41, 42, 43, 44, 45, 46, 47, 48, 49, 50, 51, 52, 53, 54, 55, 56, 57, 58, 59, 60, 61, 62, 63, 64, 65, 66, 67, 68, 69, 70, 71, 72, 73] (fun n vs W' => ∃ k : Nat, n = M.length - k ∧ vs 33 = .int .i64 (k : Int) ∧ vs 7 = .int .i64 ((eN - bigsK now M k : Nat) : Int) ∧ k ≤ M.length ∧ Mem [R, rowT elemI (.slice mp M.length mc) M, intsT ob (rnd0 now M k)] H w W') (n0 := M.length) ?_ ?_
    · refine ⟨0, rfl, rfl, ?_, Nat.zero_le _, ?_⟩
      · simp [bigsK]
      · rw [show rnd0 now M 0 = List.replicate M.length 0 from rfl]
        exact (Mem.only (M := [_, _, _]) HM12.out [2, 1, 0] rfl)
    rintro n vs W' ⟨k, rfl, e33, e7, hk, hmm⟩
    simp only [putAll, List.map_cons, List.map_nil, Act.put, List.setIfInBounds_toArray, List.set_cons_succ, List.set_cons_zero]
    rw [e33, e7]
    clear e33 e7
    obtain ⟨z, hz'⟩ : ∃ z : Int, ((eN - bigsK now M k : Nat) : Int) = z := ⟨_, rfl⟩
    rw [hz']
    have hz0 : 0 ≤ z ∧ z ≤ 16 := by rw [← hz']; omega
    obtain ⟨hz1, hz2⟩ := hz0
    have hz := Lib.hid hz'
    clear hz'
    obtain ⟨l1, hl1⟩ : ∃ l, rnd0 now M k = l := ⟨_, rfl⟩
    have hl1n : l1.length = M.length := by rw [← hl1]; exact rnd0_len now M hk
    rw [hl1] at hmm
    have hl1h := Lib.hid hl1
    clear hl1
    have HM13 := Lib.hid hmm
    clear hmm
    refine wp_seq ?_
    refine wp_region_N [(0, 1)] (by kernel_rfl) ?_
    refine wpS_this [0] rfl (by kernel_rfl) (by simp only [pickL, nthL, List.cons_append, List.nil_append]; rfl) ?_
    repeat (go_big_quiet_step (fail))
    refine wpQuiet_nil ?_
    refine wpS_nil ?_
    refine then_normal ?_
    refine wp_seq ?_
    refine wp_cond_split rfl (fun h14 => ?_) (fun h14 => ?_)
    · have hk1 : k + 1 ≤ M.length := by have : (k : Int) < ((M.length : Nat) : Int) := (by simpa using h14); omega
      clear h14
      obtain ⟨m, hm⟩ : ∃ y, M[k]? = some y := ⟨_, List.getElem?_eq_getElem hk1⟩
      refine wp_skip ?_
      refine then_normal ?_
      refine wp_seq ?_
      refine wp_block ?_
      refine wp_seq ?_
      refine wp_region_N [(0, 1), (1, 1), (2, 1), (3, 1), (4, 1)] (by kernel_rfl) ?_
      refine wpS_this [0] rfl (by kernel_rfl) (by simp only [pickL, nthL, List.cons_append, List.nil_append]; rfl) ?_
      repeat (go_big_quiet_step (fail))
      refine wpQuiet_nil ?_
      refine wpS_index (E := elemI) (i := 1) (d := some 36) rfl (by rfl) rfl rfl rfl (rowAt_src (HM13.out.src 1 rfl rowT_reads)) (hm) rfl ?_
      intro eb15 eo16 hc17
      simp only [Act.put, List.setIfInBounds_toArray, List.set_cons_succ, List.set_cons_zero]
      refine wpS_load1 (i := 2) (d := some 37) (u := .int .i64 m) rfl (by rfl) rfl rfl (hc17 0 _ rfl) Try.underlying3 rfl rfl ?_
      simp only [Act.put, List.setIfInBounds_toArray, List.set_cons_succ, List.set_cons_zero]
      refine wpS_this [3, 4] rfl (by kernel_rfl) (by simp only [pickL, nthL, List.cons_append, List.nil_append]; rfl) ?_
      repeat (go_big_quiet_step (fail))
      refine wpQuiet_nil ?_
      refine wpS_nil ?_
      refine then_normal ?_
      refine wp_seq ?_
      refine wp_region_N [(0, 1)] (by kernel_rfl) ?_
      refine wpS_this [0] rfl (by kernel_rfl) (by simp only [pickL, nthL, List.cons_append, List.nil_append]; rfl) ?_
      repeat (go_big_quiet_step (fail))
      refine wpQuiet_nil ?_
      refine wpS_nil ?_
      refine then_normal ?_
      refine wp_seq ?_
      refine wp_seq ?_
      refine wp_region_N [(0, 1)] (by kernel_rfl) ?_
      refine wpS_this [0] rfl (by kernel_rfl) (by simp only [pickL, nthL, List.cons_append, List.nil_append]; rfl) ?_
      repeat (go_big_quiet_step (fail))
      refine wpQuiet_nil ?_
      refine wpS_nil ?_
      refine then_normal ?_
      refine wp_block ?_
      refine wp_loop_F [12, 13, 38, 39, 40, 41, 42, 43, 44, 45, 46, 47, 48] (fun n ws W' => ∃ p : Nat, n = 16 - p ∧ ws 38 = .int .i64 (p : Int) ∧ ws 12 = .int .i64 (hasK now m p : Int) ∧ p ≤ 16 ∧ Mem [R, rowT elemI (.slice mp M.length mc) M, intsT ob l1] H w W') (n0 := 16) ?_ ?_
      · exact ⟨0, rfl, rfl, rfl, Nat.zero_le _, (Mem.only (M := [_, _, _]) HM13.out [0, 0, 0] rfl)⟩
      rintro n ws W' ⟨p, rfl, e38, e12, hp, hm⟩
      simp only [putAll, List.map_cons, List.map_nil, Act.put, List.setIfInBounds_toArray, List.set_cons_succ, List.set_cons_zero]
      rw [e38, e12]
      clear e38 e12
      have hhb := hasK_le now m p
      have HM18 := Lib.hid hm
      clear hm
      refine wp_seq ?_
      refine wp_region_N [(0, 1)] (by kernel_rfl) ?_
      refine wpS_this [0] rfl (by kernel_rfl) (by simp only [pickL, nthL, List.cons_append, List.nil_append]; rfl) ?_
      repeat (go_big_quiet_step (fail))
      refine wpQuiet_nil ?_
      refine wpS_nil ?_
      refine then_normal ?_
      refine wp_seq ?_
      refine wp_cond_split rfl (fun h19 => ?_) (fun h19 => ?_)
      · have hp1 : p + 1 ≤ 16 := by have : (p : Int) < ((16 : Nat) : Int) := (by simpa using h19); omega
        clear h19
        refine wp_skip ?_
        refine then_normal ?_
        refine wp_seq ?_
        refine wp_block ?_
        refine wp_seq ?_
        refine wp_region_N [(0, 1), (1, 1)] (by kernel_rfl) ?_
        refine wpS_this [0, 1] rfl (by kernel_rfl) (by simp only [pickL, nthL, List.cons_append, List.nil_append]; rfl) ?_
        repeat (go_big_quiet_step (fail))
        refine wpQuiet_nil ?_
        refine wpS_nil ?_
        refine then_normal ?_
        refine wp_seq ?_
        refine wp_region_N [(0, 1), (1, 1), (2, 3), (3, 1), (4, 1)] (by kernel_rfl) ?_
        refine wpS_this [0, 1] rfl (by kernel_rfl) (by simp only [pickL, nthL, List.cons_append, List.nil_append]; rfl) ?_
        repeat (go_big_quiet_step (fail))
        refine wpQuiet_nil ?_
        refine wpS_does2 (i := 2) (d := some 43) (rem := [_, _]) (out := [_, _, _]) rfl (by rfl) rfl Try.call25 (rat_d R vn now p hN) rfl rfl HM18.out [0] rfl covS_nil rfl rfl ?_
        rintro W21 hm20 -
        have HM22 := Lib.hid hm20
        clear hm20
        simp only [Act.put, List.setIfInBounds_toArray, List.set_cons_succ, List.set_cons_zero]
        refine wpS_this [3, 4] rfl (by kernel_rfl) (by simp only [pickL, nthL, List.cons_append, List.nil_append]; rfl) ?_
        repeat (go_big_quiet_step (fail))
        refine wpQuiet_nil ?_
        refine wpS_nil ?_
        refine then_normal ?_
        refine wp_cond_split rfl (fun h23 => ?_) (fun h23 => ?_)
        · have h16 := Lib.hid (show atL now p = m by simpa using h23)
          clear h23
          refine wp_region_N [(0, 1), (1, 1), (2, 1)] (by kernel_rfl) ?_
          refine wpS_this [0, 1, 2] rfl (by kernel_rfl) (by simp only [pickL, nthL, List.cons_append, List.nil_append]; rfl) ?_
          repeat (go_big_quiet_step (fail))
          refine wpQuiet_nil ?_
          refine wpS_nil ?_
          refine block_normal ?_
          refine then_normal ?_
          refine wp_region_N [(0, 1), (1, 1)] (by kernel_rfl) ?_
          refine wpS_this [0, 1] rfl (by kernel_rfl) (by simp only [pickL, nthL, List.cons_append, List.nil_append]; rfl) ?_
          repeat (go_big_quiet_step (fail))
          refine wpQuiet_nil ?_
          refine wpS_nil ?_
          refine then_normal ?_
          refine ⟨by kernel_rfl, ?_⟩
          refine ⟨16 - (p + 1), by omega, p + 1, rfl, rfl, ?_, hp1, (Mem.only (M := [_, _, _]) HM22.out [0, 0, 0] rfl)⟩
          rw [hasK_succ, if_pos h16.out]
          rfl
        · have h16 := Lib.hid (show ¬ atL now p = m by simpa using h23)
          clear h23
          refine wp_skip ?_
          refine block_normal ?_
          refine then_normal ?_
          refine wp_region_N [(0, 1), (1, 1)] (by kernel_rfl) ?_
          refine wpS_this [0, 1] rfl (by kernel_rfl) (by simp only [pickL, nthL, List.cons_append, List.nil_append]; rfl) ?_
          repeat (go_big_quiet_step (fail))
          refine wpQuiet_nil ?_
          refine wpS_nil ?_
          refine then_normal ?_
          refine ⟨by kernel_rfl, ?_⟩
          refine ⟨16 - (p + 1), by omega, p + 1, rfl, rfl, ?_, hp1, (Mem.only (M := [_, _, _]) HM22.out [0, 0, 0] rfl)⟩
          rw [hasK_succ, if_neg h16.out]
          rfl
      · have hp16 : p = 16 := by have : ¬ (p : Int) < 16 := (by simpa using h19); omega
        clear h19
        subst hp16
        obtain ⟨hv, hhv'⟩ : ∃ z : Int, (hasK now m 16 : Int) = z := ⟨_, rfl⟩
        rw [hhv']
        have hhv := Lib.hid hhv'
        clear hhv'
        refine wp_exit ?_
        refine then_exit (then_exit (block_exit ?_))
        refine then_normal ?_
        refine wp_seq ?_
        refine wp_seq ?_
        refine wp_region_N [(0, 1), (1, 1)] (by kernel_rfl) ?_
        refine wpS_this [0, 1] rfl (by kernel_rfl) (by simp only [pickL, nthL, List.cons_append, List.nil_append]; rfl) ?_
        repeat (go_big_quiet_step (fail))
        refine wpQuiet_nil ?_
        refine wpS_nil ?_
        refine then_normal ?_
        refine wp_cond_true rfl ?_
        refine wp_region_N [(0, 1), (1, 1), (2, 1), (3, 1), (4, 3)] (by kernel_rfl) ?_
        refine wpS_this [0, 1, 2] rfl (by kernel_rfl) (by simp only [pickL, nthL, List.cons_append, List.nil_append]; rfl) ?_
        repeat (go_big_quiet_step (fail))
        refine wpQuiet_nil ?_
        refine wpS_addrI (i := 3) (d := some 54) (b := ob) (n := M.length) (j := k) rfl (by rfl) rfl rfl rfl (by omega) rfl ?_
        simp only [Act.put, List.setIfInBounds_toArray, List.set_cons_succ, List.set_cons_zero]
        refine wpS_setI (i := 4) (z := bI) (L2 := [_, _]) rfl (by rfl) rfl rfl rfl HM18.out 2 rfl rfl (by omega) covS_nil rfl ?_
        rintro W25 hm24 -
        obtain ⟨l2, hl2⟩ : ∃ l, l1.set k bI = l := ⟨_, rfl⟩
        have hl2n : l2.length = M.length := by rw [← hl2, List.length_set]; exact hl1n
        have hl2k : l2[k]? = some bI := by rw [← hl2, List.getElem?_set_self (by omega)]
        rw [hl2] at hm24
        have hl2h := Lib.hid hl2
        clear hl2
        have HM26 := Lib.hid hm24
        clear hm24
        refine wpS_nil ?_
        refine then_normal ?_
        refine wp_seq ?_
        by_cases he : bigsK now M k < eN <;> by_cases hb' : bN < hasK now m 16
        · have g1 : decide ((0 : Int) < z) = true := decide_eq_true (by have := hz.out; omega)
          have g2 : decide (bI < hv) = true := decide_eq_true (by have := hhv.out; have := hbi.out; omega)
          have hbig : Hid (bigB now bN m = true) := Lib.hid (decide_eq_true hb')
          have hstep : Hid (rnd0 now M (k + 1) = l2.set k (bI + 1)) := Lib.hid (by rw [rnd0_step hm, hbN.out, hbi.out, heN.out, hbig.out, hl1h.out]; rw [if_pos ⟨rfl, he⟩, ← hl2h.out, List.set_set])
          have he := Lib.hid he
          have hb' := Lib.hid hb'
          refine wp_region_N [(0, 1), (1, 1), (2, 1), (3, 1), (4, 1), (5, 1), (6, 1), (7, 1), (8, 1), (9, 1)] (by kernel_rfl) ?_
          refine wpS_this [0, 1, 2, 3, 4, 5, 6, 7, 8, 9] rfl (by kernel_rfl) (by simp only [pickL, nthL, List.cons_append, List.nil_append]; rfl) ?_
          repeat (go_big_quiet_step (fail))
          refine wpQuiet_nil ?_
          refine wpS_nil ?_
          refine then_normal ?_
          refine wp_cond_true rfl ?_
          refine wp_seq ?_
          refine wp_region_N [(0, 1), (1, 1), (2, 1), (3, 1), (4, 1), (5, 1), (6, 3)] (by kernel_rfl) ?_
          refine wpS_this [0, 1] rfl (by kernel_rfl) (by simp only [pickL, nthL, List.cons_append, List.nil_append]; rfl) ?_
          repeat (go_big_quiet_step (fail))
          refine wpQuiet_nil ?_
          refine wpS_addrI (i := 2) (d := some 67) (b := ob) (n := M.length) (j := k) rfl (by rfl) rfl rfl rfl (by omega) rfl ?_
          simp only [Act.put, List.setIfInBounds_toArray, List.set_cons_succ, List.set_cons_zero]
          refine wpS_load1 (i := 3) (d := some 68) (u := .int .i64 bI) rfl (by rfl) rfl rfl ((HM26.out.cellL 0 rfl k).trans (by rw [List.getElem?_map, hl2k]; rfl)) Try.underlying3 rfl rfl ?_
          simp only [Act.put, List.setIfInBounds_toArray, List.set_cons_succ, List.set_cons_zero]
          refine wpS_this [4] rfl (by kernel_rfl) (by simp only [pickL, nthL, List.cons_append, List.nil_append]; rfl) ?_
          repeat (go_big_quiet_step (fail))
          refine wpQuiet_nil ?_
          refine wpS_addrI (i := 5) (d := some 70) (b := ob) (n := M.length) (j := k) rfl (by rfl) rfl rfl rfl (by omega) rfl ?_
          simp only [Act.put, List.setIfInBounds_toArray, List.set_cons_succ, List.set_cons_zero]
          refine wpS_setI (i := 6) (z := (bI + 1)) (L2 := [_, _]) rfl (by rfl) rfl rfl rfl HM26.out 0 rfl rfl (by omega) covS_nil rfl ?_
          rintro W28 hm27 -
          have HM29 := Lib.hid hm27
          clear hm27
          refine wpS_nil ?_
          refine then_normal ?_
          refine wp_region_N [(0, 1), (1, 1), (2, 1)] (by kernel_rfl) ?_
          refine wpS_this [0, 1, 2] rfl (by kernel_rfl) (by simp only [pickL, nthL, List.cons_append, List.nil_append]; rfl) ?_
          repeat (go_big_quiet_step (fail))
          refine wpQuiet_nil ?_
          refine wpS_nil ?_
          refine block_normal ?_
          refine then_normal ?_
          refine wp_region_N [(0, 1), (1, 1)] (by kernel_rfl) ?_
          refine wpS_this [0, 1] rfl (by kernel_rfl) (by simp only [pickL, nthL, List.cons_append, List.nil_append]; rfl) ?_
          repeat (go_big_quiet_step (fail))
          refine wpQuiet_nil ?_
          refine wpS_nil ?_
          refine then_normal ?_
          refine ⟨by kernel_rfl, ?_⟩
          have hE := bigsK_succ (now := now) hm
          rw [hbN.out, hbig.out] at hE
          refine ⟨M.length - (k + 1), by omega, k + 1, rfl, rfl, ?_, hk1, ?_⟩
          · have hz3 := hz.out
            rw [hE]
            simp only [if_true]
            exact congrArg (Value.int .i64) (by omega)
          · rw [hstep.out]
            exact (Mem.only (M := [_, _, _]) HM29.out [1, 1, 0] rfl)
        · have g1 : decide ((0 : Int) < z) = true := decide_eq_true (by have := hz.out; omega)
          have g2 : decide (bI < hv) = false := decide_eq_false (by have := hhv.out; have := hbi.out; omega)
          have hbig : Hid (bigB now bN m = false) := Lib.hid (decide_eq_false hb')
          have hstep : Hid (rnd0 now M (k + 1) = l2) := Lib.hid (by rw [rnd0_step hm, hbN.out, hbi.out, heN.out, hbig.out, hl1h.out]; rw [if_neg (by rintro ⟨h1, h2⟩; first | exact he h2 | simp at h1), Int.add_zero, hl2h.out])
          have he := Lib.hid he
          have hb' := Lib.hid hb'
          refine wp_region_N [(0, 1), (1, 1), (2, 1), (3, 1), (4, 1), (5, 1), (6, 1), (7, 1), (8, 1), (9, 1)] (by kernel_rfl) ?_
          refine wpS_this [0, 1, 2, 3, 4, 5, 6, 7, 8, 9] rfl (by kernel_rfl) (by simp only [pickL, nthL, List.cons_append, List.nil_append]; rfl) ?_
          repeat (go_big_quiet_step (fail))
          refine wpQuiet_nil ?_
          refine wpS_nil ?_
          refine then_normal ?_
          refine wp_cond_false rfl ?_
          refine wp_skip ?_
          refine block_normal ?_
          refine then_normal ?_
          refine wp_region_N [(0, 1), (1, 1)] (by kernel_rfl) ?_
          refine wpS_this [0, 1] rfl (by kernel_rfl) (by simp only [pickL, nthL, List.cons_append, List.nil_append]; rfl) ?_
          repeat (go_big_quiet_step (fail))
          refine wpQuiet_nil ?_
          refine wpS_nil ?_
          refine then_normal ?_
          refine ⟨by kernel_rfl, ?_⟩
          have hE := bigsK_succ (now := now) hm
          rw [hbN.out, hbig.out] at hE
          refine ⟨M.length - (k + 1), by omega, k + 1, rfl, rfl, ?_, hk1, ?_⟩
          · have hz3 := hz.out
            rw [hE]
            simp only [if_false, Bool.false_eq_true]
            exact congrArg (Value.int .i64) (by omega)
          · rw [hstep.out]
            exact (Mem.only (M := [_, _, _]) HM26.out [1, 1, 0] rfl)
        · have g1 : decide ((0 : Int) < z) = false := decide_eq_false (by have := hz.out; omega)
          have g2 : decide (bI < hv) = true := decide_eq_true (by have := hhv.out; have := hbi.out; omega)
          have hbig : Hid (bigB now bN m = true) := Lib.hid (decide_eq_true hb')
          have hstep : Hid (rnd0 now M (k + 1) = l2) := Lib.hid (by rw [rnd0_step hm, hbN.out, hbi.out, heN.out, hbig.out, hl1h.out]; rw [if_neg (by rintro ⟨h1, h2⟩; first | exact he h2 | simp at h1), Int.add_zero, hl2h.out])
          have he := Lib.hid he
          have hb' := Lib.hid hb'
          refine wp_region_N [(0, 1), (1, 1), (2, 1), (3, 1), (4, 1), (5, 1), (6, 1), (7, 1), (8, 1), (9, 1)] (by kernel_rfl) ?_
          refine wpS_this [0, 1, 2, 3, 4, 5, 6, 7, 8, 9] rfl (by kernel_rfl) (by simp only [pickL, nthL, List.cons_append, List.nil_append]; rfl) ?_
          repeat (go_big_quiet_step (fail))
          refine wpQuiet_nil ?_
          refine wpS_nil ?_
          refine then_normal ?_
          refine wp_cond_false rfl ?_
          refine wp_skip ?_
          refine block_normal ?_
          refine then_normal ?_
          refine wp_region_N [(0, 1), (1, 1)] (by kernel_rfl) ?_
          refine wpS_this [0, 1] rfl (by kernel_rfl) (by simp only [pickL, nthL, List.cons_append, List.nil_append]; rfl) ?_
          repeat (go_big_quiet_step (fail))
          refine wpQuiet_nil ?_
          refine wpS_nil ?_
          refine then_normal ?_
          refine ⟨by kernel_rfl, ?_⟩
          have hE := bigsK_succ (now := now) hm
          rw [hbN.out, hbig.out] at hE
          refine ⟨M.length - (k + 1), by omega, k + 1, rfl, rfl, ?_, hk1, ?_⟩
          · have hz3 := hz.out
            rw [hE]
            simp only [if_true]
            exact congrArg (Value.int .i64) (by omega)
          · rw [hstep.out]
            exact (Mem.only (M := [_, _, _]) HM26.out [1, 1, 0] rfl)
        · have g1 : decide ((0 : Int) < z) = false := decide_eq_false (by have := hz.out; omega)
          have g2 : decide (bI < hv) = false := decide_eq_false (by have := hhv.out; have := hbi.out; omega)
          have hbig : Hid (bigB now bN m = false) := Lib.hid (decide_eq_false hb')
          have hstep : Hid (rnd0 now M (k + 1) = l2) := Lib.hid (by rw [rnd0_step hm, hbN.out, hbi.out, heN.out, hbig.out, hl1h.out]; rw [if_neg (by rintro ⟨h1, h2⟩; first | exact he h2 | simp at h1), Int.add_zero, hl2h.out])
          have he := Lib.hid he
          have hb' := Lib.hid hb'
          refine wp_region_N [(0, 1), (1, 1), (2, 1), (3, 1), (4, 1), (5, 1), (6, 1), (7, 1), (8, 1), (9, 1)] (by kernel_rfl) ?_
          refine wpS_this [0, 1, 2, 3, 4, 5, 6, 7, 8, 9] rfl (by kernel_rfl) (by simp only [pickL, nthL, List.cons_append, List.nil_append]; rfl) ?_
          repeat (go_big_quiet_step (fail))
          refine wpQuiet_nil ?_
          refine wpS_nil ?_
          refine then_normal ?_
          refine wp_cond_false rfl ?_
          refine wp_skip ?_
          refine block_normal ?_
          refine then_normal ?_
          refine wp_region_N [(0, 1), (1, 1)] (by kernel_rfl) ?_
          refine wpS_this [0, 1] rfl (by kernel_rfl) (by simp only [pickL, nthL, List.cons_append, List.nil_append]; rfl) ?_
          repeat (go_big_quiet_step (fail))
          refine wpQuiet_nil ?_
          refine wpS_nil ?_
          refine then_normal ?_
          refine ⟨by kernel_rfl, ?_⟩
          have hE := bigsK_succ (now := now) hm
          rw [hbN.out, hbig.out] at hE
          refine ⟨M.length - (k + 1), by omega, k + 1, rfl, rfl, ?_, hk1, ?_⟩
          · have hz3 := hz.out
            rw [hE]
            simp only [if_false, Bool.false_eq_true]
            exact congrArg (Value.int .i64) (by omega)
          · rw [hstep.out]
            exact (Mem.only (M := [_, _, _]) HM26.out [1, 1, 0] rfl)
    · have hge0 : Hid (M.length ≤ k) := Lib.hid (by have : ¬ (k : Int) < (M.length : Int) := (by simpa using h14); omega)
      clear h14
      refine wp_exit ?_
      refine then_exit (then_exit (block_exit ?_))
      refine block_normal ?_
      refine then_normal ?_
      refine wp_region_N [(0, 1), (1, 1)] (by kernel_rfl) ?_
      refine wpS_this [0, 1] rfl (by kernel_rfl) (by simp only [pickL, nthL, List.cons_append, List.nil_append]; rfl) ?_
      repeat (go_big_quiet_step (fail))
      refine wpQuiet_nil ?_
      refine wpS_nil ?_
      refine then_normal ?_
      refine rounds_step ?_
      refine wp_seq ?_
      refine wp_region_N [(0, 1)] (by kernel_rfl) ?_
      refine wpS_this [0] rfl (by kernel_rfl) (by simp only [pickL, nthL, List.cons_append, List.nil_append]; rfl) ?_
      repeat (go_big_quiet_step (fail))
      refine wpQuiet_nil ?_
      refine wpS_nil ?_
      refine then_normal ?_
      refine wp_seq ?_
      refine wp_cond_true rfl ?_
      refine wp_skip ?_
      refine then_normal ?_
      refine wp_seq ?_
      refine wp_block ?_
      refine wp_seq ?_
      refine wp_region_N [(0, 1), (1, 1)] (by kernel_rfl) ?_
      refine wpS_this [0, 1] rfl (by kernel_rfl) (by simp only [pickL, nthL, List.cons_append, List.nil_append]; rfl) ?_
      repeat (go_big_quiet_step (fail))
      refine wpQuiet_nil ?_
      refine wpS_nil ?_
      refine then_normal ?_
      refine wp_seq ?_
      refine wp_region_N [(0, 1), (1, 1), (2, 1)] (by kernel_rfl) ?_
      refine wpS_this [0, 1, 2] rfl (by kernel_rfl) (by simp only [pickL, nthL, List.cons_append, List.nil_append]; rfl) ?_
      repeat (go_big_quiet_step (fail))
      refine wpQuiet_nil ?_
      refine wpS_nil ?_
      refine then_normal ?_
      refine wp_block ?_
      refine wp_loop_F [7, 10, 11, 12, 13, 33, 34, 35, 36, 37, 38, 39, 40, 41, 42, 43, 44, 45, 46, 47, 48, 49, 50, 51, 52, 53, 54, 55, 56, 57, 58, 59, 60, 61, 62, 63, 64, 65, 66, 67, 68, 69, 70, 71, 72, 73] (fun n vs W' => ∃ k : Nat, n = M.length - k ∧ vs 33 = .int .i64 (k : Int) ∧ vs 7 = .int .i64 ((eN - bigsK now M M.length - smallsK now M k : Nat) : Int) ∧ k ≤ M.length ∧ Mem [R, rowT elemI (.slice mp M.length mc) M, intsT ob (rnd1 now M k)] H w W') (n0 := M.length) ?_ ?_
      · have hkm : k = M.length := by have := hge0.out; omega
        subst hkm
        refine ⟨0, rfl, rfl, ?_, Nat.zero_le _, ?_⟩
        · rw [← hz.out]
          simp [smallsK]
        · rw [← rnd0_end, hl1h.out]
          exact (Mem.only (M := [_, _, _]) HM13.out [0, 0, 0] rfl)
      rintro n vs W' ⟨k, rfl, e33, e7, hk, hmm⟩
      simp only [putAll, List.map_cons, List.map_nil, Act.put, List.setIfInBounds_toArray, List.set_cons_succ, List.set_cons_zero]
      rw [e33, e7]
      clear e33 e7
      obtain ⟨z, hz'⟩ : ∃ z : Int, ((eN - bigsK now M M.length - smallsK now M k : Nat) : Int) = z := ⟨_, rfl⟩
      rw [hz']
      have hz0 : 0 ≤ z ∧ z ≤ 16 := by rw [← hz']; omega
      obtain ⟨hz1, hz2⟩ := hz0
      have hz := Lib.hid hz'
      clear hz'
      obtain ⟨l1, hl1⟩ : ∃ l, rnd1 now M k = l := ⟨_, rfl⟩
      have hl1n : l1.length = M.length := by rw [← hl1]; exact rnd1_len now M hk
      rw [hl1] at hmm
      have hl1h := Lib.hid hl1
      clear hl1
      have HM30 := Lib.hid hmm
      clear hmm
      refine wp_seq ?_
      refine wp_region_N [(0, 1)] (by kernel_rfl) ?_
      refine wpS_this [0] rfl (by kernel_rfl) (by simp only [pickL, nthL, List.cons_append, List.nil_append]; rfl) ?_
      repeat (go_big_quiet_step (fail))
      refine wpQuiet_nil ?_
      refine wpS_nil ?_
      refine then_normal ?_
      refine wp_seq ?_
      refine wp_cond_split rfl (fun h31 => ?_) (fun h31 => ?_)
      · have hk1 : k + 1 ≤ M.length := by have : (k : Int) < ((M.length : Nat) : Int) := (by simpa using h31); omega
        clear h31
        obtain ⟨m, hm⟩ : ∃ y, M[k]? = some y := ⟨_, List.getElem?_eq_getElem hk1⟩
        refine wp_skip ?_
        refine then_normal ?_
        refine wp_seq ?_
        refine wp_block ?_
        refine wp_seq ?_
        refine wp_region_N [(0, 1), (1, 1), (2, 1), (3, 1), (4, 1)] (by kernel_rfl) ?_
        refine wpS_this [0] rfl (by kernel_rfl) (by simp only [pickL, nthL, List.cons_append, List.nil_append]; rfl) ?_
        repeat (go_big_quiet_step (fail))
        refine wpQuiet_nil ?_
        refine wpS_index (E := elemI) (i := 1) (d := some 36) rfl (by rfl) rfl rfl rfl (rowAt_src (HM30.out.src 1 rfl rowT_reads)) (hm) rfl ?_
        intro eb32 eo33 hc34
        simp only [Act.put, List.setIfInBounds_toArray, List.set_cons_succ, List.set_cons_zero]
        refine wpS_load1 (i := 2) (d := some 37) (u := .int .i64 m) rfl (by rfl) rfl rfl (hc34 0 _ rfl) Try.underlying3 rfl rfl ?_
        simp only [Act.put, List.setIfInBounds_toArray, List.set_cons_succ, List.set_cons_zero]
        refine wpS_this [3, 4] rfl (by kernel_rfl) (by simp only [pickL, nthL, List.cons_append, List.nil_append]; rfl) ?_
        repeat (go_big_quiet_step (fail))
        refine wpQuiet_nil ?_
        refine wpS_nil ?_
        refine then_normal ?_
        refine wp_seq ?_
        refine wp_region_N [(0, 1)] (by kernel_rfl) ?_
        refine wpS_this [0] rfl (by kernel_rfl) (by simp only [pickL, nthL, List.cons_append, List.nil_append]; rfl) ?_
        repeat (go_big_quiet_step (fail))
        refine wpQuiet_nil ?_
        refine wpS_nil ?_
        refine then_normal ?_
        refine wp_seq ?_
        refine wp_seq ?_
        refine wp_region_N [(0, 1)] (by kernel_rfl) ?_
        refine wpS_this [0] rfl (by kernel_rfl) (by simp only [pickL, nthL, List.cons_append, List.nil_append]; rfl) ?_
        repeat (go_big_quiet_step (fail))
        refine wpQuiet_nil ?_
        refine wpS_nil ?_
        refine then_normal ?_
        refine wp_block ?_
        refine wp_loop_F [12, 13, 38, 39, 40, 41, 42, 43, 44, 45, 46, 47, 48] (fun n ws W' => ∃ p : Nat, n = 16 - p ∧ ws 38 = .int .i64 (p : Int) ∧ ws 12 = .int .i64 (hasK now m p : Int) ∧ p ≤ 16 ∧ Mem [R, rowT elemI (.slice mp M.length mc) M, intsT ob l1] H w W') (n0 := 16) ?_ ?_
        · exact ⟨0, rfl, rfl, rfl, Nat.zero_le _, (Mem.only (M := [_, _, _]) HM30.out [0, 0, 0] rfl)⟩
        rintro n ws W' ⟨p, rfl, e38, e12, hp, hm⟩
        simp only [putAll, List.map_cons, List.map_nil, Act.put, List.setIfInBounds_toArray, List.set_cons_succ, List.set_cons_zero]
        rw [e38, e12]
        clear e38 e12
        have hhb := hasK_le now m p
        have HM35 := Lib.hid hm
        clear hm
        refine wp_seq ?_
        refine wp_region_N [(0, 1)] (by kernel_rfl) ?_
        refine wpS_this [0] rfl (by kernel_rfl) (by simp only [pickL, nthL, List.cons_append, List.nil_append]; rfl) ?_
        repeat (go_big_quiet_step (fail))
        refine wpQuiet_nil ?_
        refine wpS_nil ?_
        refine then_normal ?_
        refine wp_seq ?_
        refine wp_cond_split rfl (fun h36 => ?_) (fun h36 => ?_)
        · have hp1 : p + 1 ≤ 16 := by have : (p : Int) < ((16 : Nat) : Int) := (by simpa using h36); omega
          clear h36
          refine wp_skip ?_
          refine then_normal ?_
          refine wp_seq ?_
          refine wp_block ?_
          refine wp_seq ?_
          refine wp_region_N [(0, 1), (1, 1)] (by kernel_rfl) ?_
          refine wpS_this [0, 1] rfl (by kernel_rfl) (by simp only [pickL, nthL, List.cons_append, List.nil_append]; rfl) ?_
          repeat (go_big_quiet_step (fail))
          refine wpQuiet_nil ?_
          refine wpS_nil ?_
          refine then_normal ?_
          refine wp_seq ?_
          refine wp_region_N [(0, 1), (1, 1), (2, 3), (3, 1), (4, 1)] (by kernel_rfl) ?_
          refine wpS_this [0, 1] rfl (by kernel_rfl) (by simp only [pickL, nthL, List.cons_append, List.nil_append]; rfl) ?_
          repeat (go_big_quiet_step (fail))
          refine wpQuiet_nil ?_
          refine wpS_does2 (i := 2) (d := some 43) (rem := [_, _]) (out := [_, _, _]) rfl (by rfl) rfl Try.call25 (rat_d R vn now p hN) rfl rfl HM35.out [0] rfl covS_nil rfl rfl ?_
          rintro W38 hm37 -
          have HM39 := Lib.hid hm37
          clear hm37
          simp only [Act.put, List.setIfInBounds_toArray, List.set_cons_succ, List.set_cons_zero]
          refine wpS_this [3, 4] rfl (by kernel_rfl) (by simp only [pickL, nthL, List.cons_append, List.nil_append]; rfl) ?_
          repeat (go_big_quiet_step (fail))
          refine wpQuiet_nil ?_
          refine wpS_nil ?_
          refine then_normal ?_
          refine wp_cond_split rfl (fun h40 => ?_) (fun h40 => ?_)
          · have h16 := Lib.hid (show atL now p = m by simpa using h40)
            clear h40
            refine wp_region_N [(0, 1), (1, 1), (2, 1)] (by kernel_rfl) ?_
            refine wpS_this [0, 1, 2] rfl (by kernel_rfl) (by simp only [pickL, nthL, List.cons_append, List.nil_append]; rfl) ?_
            repeat (go_big_quiet_step (fail))
            refine wpQuiet_nil ?_
            refine wpS_nil ?_
            refine block_normal ?_
            refine then_normal ?_
            refine wp_region_N [(0, 1), (1, 1)] (by kernel_rfl) ?_
            refine wpS_this [0, 1] rfl (by kernel_rfl) (by simp only [pickL, nthL, List.cons_append, List.nil_append]; rfl) ?_
            repeat (go_big_quiet_step (fail))
            refine wpQuiet_nil ?_
            refine wpS_nil ?_
            refine then_normal ?_
            refine ⟨by kernel_rfl, ?_⟩
            refine ⟨16 - (p + 1), by omega, p + 1, rfl, rfl, ?_, hp1, (Mem.only (M := [_, _, _]) HM39.out [0, 0, 0] rfl)⟩
            rw [hasK_succ, if_pos h16.out]
            rfl
          · have h16 := Lib.hid (show ¬ atL now p = m by simpa using h40)
            clear h40
            refine wp_skip ?_
            refine block_normal ?_
            refine then_normal ?_
            refine wp_region_N [(0, 1), (1, 1)] (by kernel_rfl) ?_
            refine wpS_this [0, 1] rfl (by kernel_rfl) (by simp only [pickL, nthL, List.cons_append, List.nil_append]; rfl) ?_
            repeat (go_big_quiet_step (fail))
            refine wpQuiet_nil ?_
            refine wpS_nil ?_
            refine then_normal ?_
            refine ⟨by kernel_rfl, ?_⟩
            refine ⟨16 - (p + 1), by omega, p + 1, rfl, rfl, ?_, hp1, (Mem.only (M := [_, _, _]) HM39.out [0, 0, 0] rfl)⟩
            rw [hasK_succ, if_neg h16.out]
            rfl
        · have hp16 : p = 16 := by have : ¬ (p : Int) < 16 := (by simpa using h36); omega
          clear h36
          subst hp16
          obtain ⟨hv, hhv'⟩ : ∃ z : Int, (hasK now m 16 : Int) = z := ⟨_, rfl⟩
          rw [hhv']
          have hhv := Lib.hid hhv'
          clear hhv'
          refine wp_exit ?_
          refine then_exit (then_exit (block_exit ?_))
          refine then_normal ?_
          refine wp_seq ?_
          refine wp_seq ?_
          refine wp_region_N [(0, 1), (1, 1)] (by kernel_rfl) ?_
          refine wpS_this [0, 1] rfl (by kernel_rfl) (by simp only [pickL, nthL, List.cons_append, List.nil_append]; rfl) ?_
          repeat (go_big_quiet_step (fail))
          refine wpQuiet_nil ?_
          refine wpS_nil ?_
          refine then_normal ?_
          refine wp_cond_false rfl ?_
          refine wp_skip ?_
          refine then_normal ?_
          refine wp_seq ?_
          by_cases he : bigsK now M M.length + smallsK now M k < eN <;> by_cases hb' : bN < hasK now m 16
          · have g1 : decide ((0 : Int) < z) = true := decide_eq_true (by have := hz.out; omega)
            have g2 : decide (bI < hv) = true := decide_eq_true (by have := hhv.out; have := hbi.out; omega)
            have hbig : Hid (bigB now bN m = true) := Lib.hid (decide_eq_true hb')
            have hq := quota_at (now := now) hnd.out hm
            rw [hbN.out, hbi.out, heN.out, hbig.out] at hq
            have hat := rnd1_at (now := now) hm
            rw [hbN.out, hbi.out, heN.out, hbig.out, hl1h.out] at hat
            have hstep : Hid (rnd1 now M (k + 1) = l1) := Lib.hid (by rw [rnd1_step hm, hl1h.out, hq]; exact set_same (hat.trans (by simp)))
            clear hq hat
            have he := Lib.hid he
            have hb' := Lib.hid hb'
            refine wp_region_N [(0, 1), (1, 1), (2, 1), (3, 1), (4, 1), (5, 1), (6, 1), (7, 1), (8, 1), (9, 1)] (by kernel_rfl) ?_
            refine wpS_this [0, 1, 2, 3, 4, 5, 6, 7, 8, 9] rfl (by kernel_rfl) (by simp only [pickL, nthL, List.cons_append, List.nil_append]; rfl) ?_
            repeat (go_big_quiet_step (fail))
            refine wpQuiet_nil ?_
            refine wpS_nil ?_
            refine then_normal ?_
            refine wp_cond_false rfl ?_
            refine wp_skip ?_
            refine block_normal ?_
            refine then_normal ?_
            refine wp_region_N [(0, 1), (1, 1)] (by kernel_rfl) ?_
            refine wpS_this [0, 1] rfl (by kernel_rfl) (by simp only [pickL, nthL, List.cons_append, List.nil_append]; rfl) ?_
            repeat (go_big_quiet_step (fail))
            refine wpQuiet_nil ?_
            refine wpS_nil ?_
            refine then_normal ?_
            refine ⟨by kernel_rfl, ?_⟩
            have hE := smallsK_succ (now := now) hm
            rw [hbN.out, hbig.out] at hE
            refine ⟨M.length - (k + 1), by omega, k + 1, rfl, rfl, ?_, hk1, ?_⟩
            · have hz3 := hz.out
              rw [hE]
              simp only [if_true]
              exact congrArg (Value.int .i64) (by omega)
            · rw [hstep.out]
              exact (Mem.only (M := [_, _, _]) HM35.out [0, 0, 0] rfl)
          · have g1 : decide ((0 : Int) < z) = true := decide_eq_true (by have := hz.out; omega)
            have g2 : decide (bI < hv) = false := decide_eq_false (by have := hhv.out; have := hbi.out; omega)
            have hbig : Hid (bigB now bN m = false) := Lib.hid (decide_eq_false hb')
            have hq := quota_at (now := now) hnd.out hm
            rw [hbN.out, hbi.out, heN.out, hbig.out] at hq
            have hat := rnd1_at (now := now) hm
            rw [hbN.out, hbi.out, heN.out, hbig.out, hl1h.out] at hat
            rw [if_neg (by rintro ⟨h1, _⟩; simp at h1), Int.add_zero] at hat
            have hatk := Lib.hid hat
            have hstep : Hid (rnd1 now M (k + 1) = l1.set k (bI + 1)) := Lib.hid (by rw [rnd1_step hm, hl1h.out, hq, if_pos (by simpa using he)])
            clear hq hat
            have he := Lib.hid he
            have hb' := Lib.hid hb'
            refine wp_region_N [(0, 1), (1, 1), (2, 1), (3, 1), (4, 1), (5, 1), (6, 1), (7, 1), (8, 1), (9, 1)] (by kernel_rfl) ?_
            refine wpS_this [0, 1, 2, 3, 4, 5, 6, 7, 8, 9] rfl (by kernel_rfl) (by simp only [pickL, nthL, List.cons_append, List.nil_append]; rfl) ?_
            repeat (go_big_quiet_step (fail))
            refine wpQuiet_nil ?_
            refine wpS_nil ?_
            refine then_normal ?_
            refine wp_cond_true rfl ?_
            refine wp_seq ?_
            refine wp_region_N [(0, 1), (1, 1), (2, 1), (3, 1), (4, 1), (5, 1), (6, 3)] (by kernel_rfl) ?_
            refine wpS_this [0, 1] rfl (by kernel_rfl) (by simp only [pickL, nthL, List.cons_append, List.nil_append]; rfl) ?_
            repeat (go_big_quiet_step (fail))
            refine wpQuiet_nil ?_
            refine wpS_addrI (i := 2) (d := some 67) (b := ob) (n := M.length) (j := k) rfl (by rfl) rfl rfl rfl (by omega) rfl ?_
            simp only [Act.put, List.setIfInBounds_toArray, List.set_cons_succ, List.set_cons_zero]
            refine wpS_load1 (i := 3) (d := some 68) (u := .int .i64 bI) rfl (by rfl) rfl rfl ((HM35.out.cellL 2 rfl k).trans (by rw [List.getElem?_map, hatk.out]; rfl)) Try.underlying3 rfl rfl ?_
            simp only [Act.put, List.setIfInBounds_toArray, List.set_cons_succ, List.set_cons_zero]
            refine wpS_this [4] rfl (by kernel_rfl) (by simp only [pickL, nthL, List.cons_append, List.nil_append]; rfl) ?_
            repeat (go_big_quiet_step (fail))
            refine wpQuiet_nil ?_
            refine wpS_addrI (i := 5) (d := some 70) (b := ob) (n := M.length) (j := k) rfl (by rfl) rfl rfl rfl (by omega) rfl ?_
            simp only [Act.put, List.setIfInBounds_toArray, List.set_cons_succ, List.set_cons_zero]
            refine wpS_setI (i := 6) (z := (bI + 1)) (L2 := [_, _]) rfl (by rfl) rfl rfl rfl HM35.out 2 rfl rfl (by omega) covS_nil rfl ?_
            rintro W42 hm41 -
            have HM43 := Lib.hid hm41
            clear hm41
            refine wpS_nil ?_
            refine then_normal ?_
            refine wp_region_N [(0, 1), (1, 1), (2, 1)] (by kernel_rfl) ?_
            refine wpS_this [0, 1, 2] rfl (by kernel_rfl) (by simp only [pickL, nthL, List.cons_append, List.nil_append]; rfl) ?_
            repeat (go_big_quiet_step (fail))
            refine wpQuiet_nil ?_
            refine wpS_nil ?_
            refine block_normal ?_
            refine then_normal ?_
            refine wp_region_N [(0, 1), (1, 1)] (by kernel_rfl) ?_
            refine wpS_this [0, 1] rfl (by kernel_rfl) (by simp only [pickL, nthL, List.cons_append, List.nil_append]; rfl) ?_
            repeat (go_big_quiet_step (fail))
            refine wpQuiet_nil ?_
            refine wpS_nil ?_
            refine then_normal ?_
            refine ⟨by kernel_rfl, ?_⟩
            have hE := smallsK_succ (now := now) hm
            rw [hbN.out, hbig.out] at hE
            refine ⟨M.length - (k + 1), by omega, k + 1, rfl, rfl, ?_, hk1, ?_⟩
            · have hz3 := hz.out
              rw [hE]
              simp only [if_false, Bool.false_eq_true]
              exact congrArg (Value.int .i64) (by omega)
            · rw [hstep.out]
              exact (Mem.only (M := [_, _, _]) HM43.out [1, 1, 0] rfl)
          · have g1 : decide ((0 : Int) < z) = false := decide_eq_false (by have := hz.out; omega)
            have g2 : decide (bI < hv) = true := decide_eq_true (by have := hhv.out; have := hbi.out; omega)
            have hbig : Hid (bigB now bN m = true) := Lib.hid (decide_eq_true hb')
            have hq := quota_at (now := now) hnd.out hm
            rw [hbN.out, hbi.out, heN.out, hbig.out] at hq
            have hat := rnd1_at (now := now) hm
            rw [hbN.out, hbi.out, heN.out, hbig.out, hl1h.out] at hat
            have hstep : Hid (rnd1 now M (k + 1) = l1) := Lib.hid (by rw [rnd1_step hm, hl1h.out, hq]; exact set_same (hat.trans (by simp)))
            clear hq hat
            have he := Lib.hid he
            have hb' := Lib.hid hb'
            refine wp_region_N [(0, 1), (1, 1), (2, 1), (3, 1), (4, 1), (5, 1), (6, 1), (7, 1), (8, 1), (9, 1)] (by kernel_rfl) ?_
            refine wpS_this [0, 1, 2, 3, 4, 5, 6, 7, 8, 9] rfl (by kernel_rfl) (by simp only [pickL, nthL, List.cons_append, List.nil_append]; rfl) ?_
            repeat (go_big_quiet_step (fail))
            refine wpQuiet_nil ?_
            refine wpS_nil ?_
            refine then_normal ?_
            refine wp_cond_false rfl ?_
            refine wp_skip ?_
            refine block_normal ?_
            refine then_normal ?_
            refine wp_region_N [(0, 1), (1, 1)] (by kernel_rfl) ?_
            refine wpS_this [0, 1] rfl (by kernel_rfl) (by simp only [pickL, nthL, List.cons_append, List.nil_append]; rfl) ?_
            repeat (go_big_quiet_step (fail))
            refine wpQuiet_nil ?_
            refine wpS_nil ?_
            refine then_normal ?_
            refine ⟨by kernel_rfl, ?_⟩
            have hE := smallsK_succ (now := now) hm
            rw [hbN.out, hbig.out] at hE
            refine ⟨M.length - (k + 1), by omega, k + 1, rfl, rfl, ?_, hk1, ?_⟩
            · have hz3 := hz.out
              rw [hE]
              simp only [if_true]
              exact congrArg (Value.int .i64) (by omega)
            · rw [hstep.out]
              exact (Mem.only (M := [_, _, _]) HM35.out [0, 0, 0] rfl)
          · have g1 : decide ((0 : Int) < z) = false := decide_eq_false (by have := hz.out; omega)
            have g2 : decide (bI < hv) = false := decide_eq_false (by have := hhv.out; have := hbi.out; omega)
            have hbig : Hid (bigB now bN m = false) := Lib.hid (decide_eq_false hb')
            have hq := quota_at (now := now) hnd.out hm
            rw [hbN.out, hbi.out, heN.out, hbig.out] at hq
            have hat := rnd1_at (now := now) hm
            rw [hbN.out, hbi.out, heN.out, hbig.out, hl1h.out] at hat
            have hstep : Hid (rnd1 now M (k + 1) = l1) := Lib.hid (by rw [rnd1_step hm, hl1h.out, hq]; exact set_same (hat.trans (by simp [he])))
            clear hq hat
            have he := Lib.hid he
            have hb' := Lib.hid hb'
            refine wp_region_N [(0, 1), (1, 1), (2, 1), (3, 1), (4, 1), (5, 1), (6, 1), (7, 1), (8, 1), (9, 1)] (by kernel_rfl) ?_
            refine wpS_this [0, 1, 2, 3, 4, 5, 6, 7, 8, 9] rfl (by kernel_rfl) (by simp only [pickL, nthL, List.cons_append, List.nil_append]; rfl) ?_
            repeat (go_big_quiet_step (fail))
            refine wpQuiet_nil ?_
            refine wpS_nil ?_
            refine then_normal ?_
            refine wp_cond_false rfl ?_
            refine wp_skip ?_
            refine block_normal ?_
            refine then_normal ?_
            refine wp_region_N [(0, 1), (1, 1)] (by kernel_rfl) ?_
            refine wpS_this [0, 1] rfl (by kernel_rfl) (by simp only [pickL, nthL, List.cons_append, List.nil_append]; rfl) ?_
            repeat (go_big_quiet_step (fail))
            refine wpQuiet_nil ?_
            refine wpS_nil ?_
            refine then_normal ?_
            refine ⟨by kernel_rfl, ?_⟩
            have hE := smallsK_succ (now := now) hm
            rw [hbN.out, hbig.out] at hE
            refine ⟨M.length - (k + 1), by omega, k + 1, rfl, rfl, ?_, hk1, ?_⟩
            · have hz3 := hz.out
              rw [hE]
              simp only [if_false, Bool.false_eq_true]
              exact congrArg (Value.int .i64) (by omega)
            · rw [hstep.out]
              exact (Mem.only (M := [_, _, _]) HM35.out [0, 0, 0] rfl)
      · have hge1 : Hid (M.length ≤ k) := Lib.hid (by have : ¬ (k : Int) < (M.length : Int) := (by simpa using h31); omega)
        clear h31
        refine wp_exit ?_
        refine then_exit (then_exit (block_exit ?_))
        refine block_normal ?_
        refine then_normal ?_
        refine wp_region_N [(0, 1), (1, 1)] (by kernel_rfl) ?_
        refine wpS_this [0, 1] rfl (by kernel_rfl) (by simp only [pickL, nthL, List.cons_append, List.nil_append]; rfl) ?_
        repeat (go_big_quiet_step (fail))
        refine wpQuiet_nil ?_
        refine wpS_nil ?_
        refine then_normal ?_
        refine rounds_step ?_
        refine wp_seq ?_
        refine wp_region_N [(0, 1)] (by kernel_rfl) ?_
        refine wpS_this [0] rfl (by kernel_rfl) (by simp only [pickL, nthL, List.cons_append, List.nil_append]; rfl) ?_
        repeat (go_big_quiet_step (fail))
        refine wpQuiet_nil ?_
        refine wpS_nil ?_
        refine then_normal ?_
        refine wp_seq ?_
        refine wp_cond_false rfl ?_
        refine wp_exit ?_
        refine then_exit (then_exit (block_exit ?_))
        refine then_normal ?_
        refine wp_seq ?_
        refine wp_region_N [(0, 1), (1, 1)] (by kernel_rfl) ?_
        refine wpS_this [0, 1] rfl (by kernel_rfl) (by simp only [pickL, nthL, List.cons_append, List.nil_append]; rfl) ?_
        repeat (go_big_quiet_step (fail))
        refine wpQuiet_nil ?_
        refine wpS_nil ?_
        refine then_normal ?_
        refine wp_ret ?_
        refine bodyPost_ret (results_tmp rfl _ _ _) rfl ?_
        have hkm : k = M.length := by have := hge1.out; omega
        subst hkm
        have hfin := HM30.out
        rw [← hl1h.out, rnd1_end] at hfin
        exact doesU_ret (post := fun u => [rowT elemI u (quotasOf now (peersOf ms (-1))), R]) (by rw [hMe.out]; exact ints_row (by simp [quotasOf]) (by omega) (Mem.only (M := [_, _]) hfin [2, 0] rfl)) rfl

set_option maxHeartbeats 4000000 in
set_option maxRecDepth 100000 in
theorem rquotas_m (R : At) (vn vm : Value) (now ms : List Int) (hN : ∀ W H, R.p W H → RowAt elemI W vn now) (hM : ∀ W H, R.p W H → RowAt elemI W vm ms) (hml : ms.length ≤ 1000) (hne : peersOf ms (-1) ≠ []) : DoesU Try.prog 16 #[vn, vm] [R] (fun u => [quotaT now (peersOf ms (-1)) u, R]) := by
  intro w H hp
  have HM0 := Lib.hid (mem_refl hp)
  clear hp
  go_enter Try.func16, Try.ntmps16
  refine wp_seq ?_
  refine wp_region_N [(0, 1)] (by kernel_rfl) ?_
  refine wpS_this [0] rfl (by kernel_rfl) (by simp only [pickL, nthL, List.cons_append, List.nil_append]; rfl) ?_
  repeat (go_big_quiet_step (fail))
  refine wpQuiet_nil ?_
  refine wpS_nil ?_
  refine then_normal ?_
  refine wp_seq ?_
  refine wp_region_N [(0, 1), (1, 3), (2, 1)] (by kernel_rfl) ?_
  refine wpS_this [0] rfl (by kernel_rfl) (by simp only [pickL, nthL, List.cons_append, List.nil_append]; rfl) ?_
  repeat (go_big_quiet_step (fail))
  refine wpQuiet_nil ?_
  refine wpS_doesU2 (i := 1) (d := some 15) (rem := []) rfl (by rfl) rfl Try.call14 (rpeers_d R vm ms (-1) hM hml) rfl rfl HM0.out [0] rfl covS_nil (fun _ => rfl) rfl ?_
  rintro u3 W2 hm1 -
  obtain ⟨M, hMe'⟩ : ∃ x, peersOf ms (-1) = x := ⟨_, rfl⟩
  rw [hMe'] at hm1
  obtain ⟨mp, mc, rfl⟩ := row_form (Mem.src hm1 0 rfl rowT_reads)
  have hM8 : M.length ≤ 8 := by rw [← hMe']; exact peersOf_len8 _ _
  have hnd : Hid M.Nodup := Lib.hid (by rw [← hMe']; exact (peersOf_ok _ _).nodup)
  have hMe := Lib.hid hMe'
  clear hMe'
  have HM4 := Lib.hid hm1
  clear hm1
  simp only [Act.put, List.setIfInBounds_toArray, List.set_cons_succ, List.set_cons_zero]
  refine wpS_this [2] rfl (by kernel_rfl) (by simp only [pickL, nthL, List.cons_append, List.nil_append]; rfl) ?_
  repeat (go_big_quiet_step (fail))
  refine wpQuiet_nil ?_
  refine wpS_nil ?_
  refine then_normal ?_
  refine wp_seq ?_
  refine wp_seq ?_
  by_cases h0 : M.length = 0
  · have g1 : ((M.length : Int) == 0) = true := beq_iff_eq.2 (by omega)
    have h0e : M = [] := List.eq_nil_of_length_eq_zero h0
    refine wp_region_N [(0, 1), (1, 1), (2, 1)] (by kernel_rfl) ?_
    refine wpS_this [0, 1, 2] rfl (by kernel_rfl) (by simp only [pickL, nthL, List.cons_append, List.nil_append]; rfl) ?_
    repeat (go_big_quiet_step (fail))
    refine wpQuiet_nil ?_
    refine wpS_nil ?_
    refine then_normal ?_
    refine wp_cond_true rfl ?_
    refine wp_seq ?_
    refine wp_region_N [(0, 1)] (by kernel_rfl) ?_
    refine wpS_this [0] rfl (by kernel_rfl) (by simp only [pickL, nthL, List.cons_append, List.nil_append]; rfl) ?_
    repeat (go_big_quiet_step (fail))
    refine wpQuiet_nil ?_
    refine wpS_nil ?_
    refine then_normal ?_
    refine wp_ret ?_
    refine then_ret ?_
    refine bodyPost_ret (results_tmp rfl _ _ _) rfl ?_
    exact absurd (hMe.out.trans h0e) hne
  · have g1 : ((M.length : Int) == 0) = false := beq_eq_false_iff_ne.2 (by omega)
    refine wp_region_N [(0, 1), (1, 1), (2, 1)] (by kernel_rfl) ?_
    refine wpS_this [0, 1, 2] rfl (by kernel_rfl) (by simp only [pickL, nthL, List.cons_append, List.nil_append]; rfl) ?_
    repeat (go_big_quiet_step (fail))
    refine wpQuiet_nil ?_
    refine wpS_nil ?_
    refine then_normal ?_
    refine wp_cond_false rfl ?_
    refine wp_skip ?_
    refine then_normal ?_
    refine wp_seq ?_
    refine wp_region_M (fun k => k ∈ ([] : List Nat)) [(0, 1), (1, 1), (2, 1), (3, 1), (4, 1), (5, 1), (6, 1), (7, 1)] (by kernel_rfl) (by kernel_rfl) HM4.out ?_
    intro W5 hm6
    have HM7 := Lib.hid hm6
    clear hm6
    refine wpS_this [0, 1, 2, 3, 4, 5, 6, 7] rfl (by kernel_rfl) (by simp only [pickL, nthL, List.cons_append, List.nil_append]; rfl) ?_
    repeat (go_big_quiet_step (fail))
    refine wpQuiet_nil ?_
    refine wpS_nil ?_
    refine then_normal ?_
    refine wp_seq ?_
    obtain ⟨bN, hbN'⟩ : ∃ b, 16 / M.length = b := ⟨_, rfl⟩
    obtain ⟨eN, heN'⟩ : ∃ e, 16 % M.length = e := ⟨_, rfl⟩
    have hbI : (16 : Int) / (M.length : Int) = (bN : Int) := by rw [← hbN']; simp
    have heI : (16 : Int) % (M.length : Int) = (eN : Int) := by rw [← heN']; simp
    rw [hbI, heI]
    obtain ⟨bI, hbi'⟩ : ∃ z : Int, (bN : Int) = z := ⟨_, rfl⟩
    rw [hbi']
    have hbi0 : 0 ≤ bI ∧ bI ≤ 16 := by rw [← hbi', ← hbN']; exact ⟨Int.natCast_nonneg _, by exact_mod_cast Nat.div_le_self 16 _⟩
    obtain ⟨hbi1, hbi2⟩ := hbi0
    have hbi := Lib.hid hbi'
    clear hbi'
    have hbN := Lib.hid hbN'
    have heN := Lib.hid heN'
    have hb16 : bN ≤ 16 := by rw [← hbN']; exact Nat.div_le_self _ _
    have he16 : eN ≤ 16 := by rw [← heN']; exact Nat.mod_le _ _
    clear hbI heI hbN' heN'
    refine wp_region_N [(0, 1), (1, 1), (2, 3), (3, 1)] (by kernel_rfl) ?_
    refine wpS_this [0, 1] rfl (by kernel_rfl) (by simp only [pickL, nthL, List.cons_append, List.nil_append]; rfl) ?_
    repeat (go_big_quiet_step (fail))
    refine wpQuiet_nil ?_
    refine wpS_makeI (i := 2) (dd := 27) (n := M.length) rfl (by rfl) rfl rfl rfl (by omega) HM7.out covS_nil rfl ?_
    rintro ob W11 hm10 -
    have HM12 := Lib.hid hm10
    clear hm10
    simp only [Act.put, List.setIfInBounds_toArray, List.set_cons_succ, List.set_cons_zero]
    refine wpS_this [3] rfl (by kernel_rfl) (by simp only [pickL, nthL, List.cons_append, List.nil_append]; rfl) ?_
    repeat (go_big_quiet_step (fail))
    refine wpQuiet_nil ?_
    refine wpS_nil ?_
    refine then_normal ?_
    refine wp_seq ?_
    refine wp_seq ?_
    refine wp_region_N [(0, 1)] (by kernel_rfl) ?_
    refine wpS_this [0] rfl (by kernel_rfl) (by simp only [pickL, nthL, List.cons_append, List.nil_append]; rfl) ?_
    repeat (go_big_quiet_step (fail))
    refine wpQuiet_nil ?_
    refine wpS_nil ?_
    refine then_normal ?_
    refine wp_block ?_
    refine wp_loop_rounds 3 ?_
    refine rounds_step ?_
    refine wp_seq ?_
    refine wp_region_N [(0, 1)] (by kernel_rfl) ?_
    refine wpS_this [0] rfl (by kernel_rfl) (by simp only [pickL, nthL, List.cons_append, List.nil_append]; rfl) ?_
    repeat (go_big_quiet_step (fail))
    refine wpQuiet_nil ?_
    refine wpS_nil ?_
    refine then_normal ?_
    refine wp_seq ?_
    refine wp_cond_true rfl ?_
    refine wp_skip ?_
    refine then_normal ?_
    refine wp_seq ?_
    refine wp_block ?_
    refine wp_seq ?_
    refine wp_region_N [(0, 1), (1, 1)] (by kernel_rfl) ?_
    refine wpS_this [0, 1] rfl (by kernel_rfl) (by simp only [pickL, nthL, List.cons_append, List.nil_append]; rfl) ?_
    repeat (go_big_quiet_step (fail))
    refine wpQuiet_nil ?_
    refine wpS_nil ?_
    refine then_normal ?_
    refine wp_seq ?_
    refine wp_region_N [(0, 1), (1, 1), (2, 1)] (by kernel_rfl) ?_
    refine wpS_this [0, 1, 2] rfl (by kernel_rfl) (by simp only [pickL, nthL, List.cons_append, List.nil_append]; rfl) ?_
    repeat (go_big_quiet_step (fail))
    refine wpQuiet_nil ?_
    refine wpS_nil ?_
    refine then_normal ?_
    refine wp_block ?_
    refine wp_loop_F [7, 10, 11, 12, 13, 33, 34, 35, 36, 37, 38, 39, 40, 41, 42, 43, 44, 45, 46, 47, 48, 49, 50, 51, 52, 53, 54, 55, 56, 57, 58, 59, 60, 61, 62, 63, 64, 65, 66, 67, 68, 69, 70, 71, 72, 73] (fun n vs W' => ∃ k : Nat, n = M.length - k ∧ vs 33 = .int .i64 (k : Int) ∧ vs 7 = .int .i64 ((eN - bigsK now M k : Nat) : Int) ∧ k ≤ M.length ∧ Mem [R, rowT elemI (.slice mp M.length mc) M, intsT ob (rnd0 now M k)] H w W') (n0 := M.length) ?_ ?_
    · refine ⟨0, rfl, rfl, ?_, Nat.zero_le _, ?_⟩
      · simp [bigsK]
      · rw [show rnd0 now M 0 = List.replicate M.length 0 from rfl]
        exact (Mem.only (M := [_, _, _]) HM12.out [2, 1, 0] rfl)
    rintro n vs W' ⟨k, rfl, e33, e7, hk, hmm⟩
    simp only [putAll, List.map_cons, List.map_nil, Act.put, List.setIfInBounds_toArray, List.set_cons_succ, List.set_cons_zero]
    rw [e33, e7]
    clear e33 e7
    obtain ⟨z, hz'⟩ : ∃ z : Int, ((eN - bigsK now M k : Nat) : Int) = z := ⟨_, rfl⟩
    rw [hz']
    have hz0 : 0 ≤ z ∧ z ≤ 16 := by rw [← hz']; omega
    obtain ⟨hz1, hz2⟩ := hz0
    have hz := Lib.hid hz'
    clear hz'
    obtain ⟨l1, hl1⟩ : ∃ l, rnd0 now M k = l := ⟨_, rfl⟩
    have hl1n : l1.length = M.length := by rw [← hl1]; exact rnd0_len now M hk
    rw [hl1] at hmm
    have hl1h := Lib.hid hl1
    clear hl1
    have HM13 := Lib.hid hmm
    clear hmm
    refine wp_seq ?_
    refine wp_region_N [(0, 1)] (by kernel_rfl) ?_
    refine wpS_this [0] rfl (by kernel_rfl) (by simp only [pickL, nthL, List.cons_append, List.nil_append]; rfl) ?_
    repeat (go_big_quiet_step (fail))
    refine wpQuiet_nil ?_
    refine wpS_nil ?_
    refine then_normal ?_
    refine wp_seq ?_
    refine wp_cond_split rfl (fun h14 => ?_) (fun h14 => ?_)
    · have hk1 : k + 1 ≤ M.length := by have : (k : Int) < ((M.length : Nat) : Int) := (by simpa using h14); omega
      clear h14
      obtain ⟨m, hm⟩ : ∃ y, M[k]? = some y := ⟨_, List.getElem?_eq_getElem hk1⟩
      refine wp_skip ?_
      refine then_normal ?_
      refine wp_seq ?_
      refine wp_block ?_
      refine wp_seq ?_
      refine wp_region_N [(0, 1), (1, 1), (2, 1), (3, 1), (4, 1)] (by kernel_rfl) ?_
      refine wpS_this [0] rfl (by kernel_rfl) (by simp only [pickL, nthL, List.cons_append, List.nil_append]; rfl) ?_
      repeat (go_big_quiet_step (fail))
      refine wpQuiet_nil ?_
      refine wpS_index (E := elemI) (i := 1) (d := some 36) rfl (by rfl) rfl rfl rfl (rowAt_src (HM13.out.src 1 rfl rowT_reads)) (hm) rfl ?_
      intro eb15 eo16 hc17
      simp only [Act.put, List.setIfInBounds_toArray, List.set_cons_succ, List.set_cons_zero]
      refine wpS_load1 (i := 2) (d := some 37) (u := .int .i64 m) rfl (by rfl) rfl rfl (hc17 0 _ rfl) Try.underlying3 rfl rfl ?_
      simp only [Act.put, List.setIfInBounds_toArray, List.set_cons_succ, List.set_cons_zero]
      refine wpS_this [3, 4] rfl (by kernel_rfl) (by simp only [pickL, nthL, List.cons_append, List.nil_append]; rfl) ?_
      repeat (go_big_quiet_step (fail))
      refine wpQuiet_nil ?_
      refine wpS_nil ?_
      refine then_normal ?_
      refine wp_seq ?_
      refine wp_region_N [(0, 1)] (by kernel_rfl) ?_
      refine wpS_this [0] rfl (by kernel_rfl) (by simp only [pickL, nthL, List.cons_append, List.nil_append]; rfl) ?_
      repeat (go_big_quiet_step (fail))
      refine wpQuiet_nil ?_
      refine wpS_nil ?_
      refine then_normal ?_
      refine wp_seq ?_
      refine wp_seq ?_
      refine wp_region_N [(0, 1)] (by kernel_rfl) ?_
      refine wpS_this [0] rfl (by kernel_rfl) (by simp only [pickL, nthL, List.cons_append, List.nil_append]; rfl) ?_
      repeat (go_big_quiet_step (fail))
      refine wpQuiet_nil ?_
      refine wpS_nil ?_
      refine then_normal ?_
      refine wp_block ?_
      refine wp_loop_F [12, 13, 38, 39, 40, 41, 42, 43, 44, 45, 46, 47, 48] (fun n ws W' => ∃ p : Nat, n = 16 - p ∧ ws 38 = .int .i64 (p : Int) ∧ ws 12 = .int .i64 (hasK now m p : Int) ∧ p ≤ 16 ∧ Mem [R, rowT elemI (.slice mp M.length mc) M, intsT ob l1] H w W') (n0 := 16) ?_ ?_
      · exact ⟨0, rfl, rfl, rfl, Nat.zero_le _, (Mem.only (M := [_, _, _]) HM13.out [0, 0, 0] rfl)⟩
      rintro n ws W' ⟨p, rfl, e38, e12, hp, hm⟩
      simp only [putAll, List.map_cons, List.map_nil, Act.put, List.setIfInBounds_toArray, List.set_cons_succ, List.set_cons_zero]
      rw [e38, e12]
      clear e38 e12
      have hhb := hasK_le now m p
      have HM18 := Lib.hid hm
      clear hm
      refine wp_seq ?_
      refine wp_region_N [(0, 1)] (by kernel_rfl) ?_
      refine wpS_this [0] rfl (by kernel_rfl) (by simp only [pickL, nthL, List.cons_append, List.nil_append]; rfl) ?_
      repeat (go_big_quiet_step (fail))
      refine wpQuiet_nil ?_
      refine wpS_nil ?_
      refine then_normal ?_
      refine wp_seq ?_
      refine wp_cond_split rfl (fun h19 => ?_) (fun h19 => ?_)
      · have hp1 : p + 1 ≤ 16 := by have : (p : Int) < ((16 : Nat) : Int) := (by simpa using h19); omega
        clear h19
        refine wp_skip ?_
        refine then_normal ?_
        refine wp_seq ?_
        refine wp_block ?_
        refine wp_seq ?_
        refine wp_region_N [(0, 1), (1, 1)] (by kernel_rfl) ?_
        refine wpS_this [0, 1] rfl (by kernel_rfl) (by simp only [pickL, nthL, List.cons_append, List.nil_append]; rfl) ?_
        repeat (go_big_quiet_step (fail))
        refine wpQuiet_nil ?_
        refine wpS_nil ?_
        refine then_normal ?_
        refine wp_seq ?_
        refine wp_region_N [(0, 1), (1, 1), (2, 3), (3, 1), (4, 1)] (by kernel_rfl) ?_
        refine wpS_this [0, 1] rfl (by kernel_rfl) (by simp only [pickL, nthL, List.cons_append, List.nil_append]; rfl) ?_
        repeat (go_big_quiet_step (fail))
        refine wpQuiet_nil ?_
        refine wpS_does2 (i := 2) (d := some 43) (rem := [_, _]) (out := [_, _, _]) rfl (by rfl) rfl Try.call25 (rat_d R vn now p hN) rfl rfl HM18.out [0] rfl covS_nil rfl rfl ?_
        rintro W21 hm20 -
        have HM22 := Lib.hid hm20
        clear hm20
        simp only [Act.put, List.setIfInBounds_toArray, List.set_cons_succ, List.set_cons_zero]
        refine wpS_this [3, 4] rfl (by kernel_rfl) (by simp only [pickL, nthL, List.cons_append, List.nil_append]; rfl) ?_
        repeat (go_big_quiet_step (fail))
        refine wpQuiet_nil ?_
        refine wpS_nil ?_
        refine then_normal ?_
        refine wp_cond_split rfl (fun h23 => ?_) (fun h23 => ?_)
        · have h16 := Lib.hid (show atL now p = m by simpa using h23)
          clear h23
          refine wp_region_N [(0, 1), (1, 1), (2, 1)] (by kernel_rfl) ?_
          refine wpS_this [0, 1, 2] rfl (by kernel_rfl) (by simp only [pickL, nthL, List.cons_append, List.nil_append]; rfl) ?_
          repeat (go_big_quiet_step (fail))
          refine wpQuiet_nil ?_
          refine wpS_nil ?_
          refine block_normal ?_
          refine then_normal ?_
          refine wp_region_N [(0, 1), (1, 1)] (by kernel_rfl) ?_
          refine wpS_this [0, 1] rfl (by kernel_rfl) (by simp only [pickL, nthL, List.cons_append, List.nil_append]; rfl) ?_
          repeat (go_big_quiet_step (fail))
          refine wpQuiet_nil ?_
          refine wpS_nil ?_
          refine then_normal ?_
          refine ⟨by kernel_rfl, ?_⟩
          refine ⟨16 - (p + 1), by omega, p + 1, rfl, rfl, ?_, hp1, (Mem.only (M := [_, _, _]) HM22.out [0, 0, 0] rfl)⟩
          rw [hasK_succ, if_pos h16.out]
          rfl
        · have h16 := Lib.hid (show ¬ atL now p = m by simpa using h23)
          clear h23
          refine wp_skip ?_
          refine block_normal ?_
          refine then_normal ?_
          refine wp_region_N [(0, 1), (1, 1)] (by kernel_rfl) ?_
          refine wpS_this [0, 1] rfl (by kernel_rfl) (by simp only [pickL, nthL, List.cons_append, List.nil_append]; rfl) ?_
          repeat (go_big_quiet_step (fail))
          refine wpQuiet_nil ?_
          refine wpS_nil ?_
          refine then_normal ?_
          refine ⟨by kernel_rfl, ?_⟩
          refine ⟨16 - (p + 1), by omega, p + 1, rfl, rfl, ?_, hp1, (Mem.only (M := [_, _, _]) HM22.out [0, 0, 0] rfl)⟩
          rw [hasK_succ, if_neg h16.out]
          rfl
      · have hp16 : p = 16 := by have : ¬ (p : Int) < 16 := (by simpa using h19); omega
        clear h19
        subst hp16
        obtain ⟨hv, hhv'⟩ : ∃ z : Int, (hasK now m 16 : Int) = z := ⟨_, rfl⟩
        rw [hhv']
        have hhv := Lib.hid hhv'
        clear hhv'
        refine wp_exit ?_
        refine then_exit (then_exit (block_exit ?_))
        refine then_normal ?_
        refine wp_seq ?_
        refine wp_seq ?_
        refine wp_region_N [(0, 1), (1, 1)] (by kernel_rfl) ?_
        refine wpS_this [0, 1] rfl (by kernel_rfl) (by simp only [pickL, nthL, List.cons_append, List.nil_append]; rfl) ?_
        repeat (go_big_quiet_step (fail))
        refine wpQuiet_nil ?_
        refine wpS_nil ?_
        refine then_normal ?_
        refine wp_cond_true rfl ?_
        refine wp_region_N [(0, 1), (1, 1), (2, 1), (3, 1), (4, 3)] (by kernel_rfl) ?_
        refine wpS_this [0, 1, 2] rfl (by kernel_rfl) (by simp only [pickL, nthL, List.cons_append, List.nil_append]; rfl) ?_
        repeat (go_big_quiet_step (fail))
        refine wpQuiet_nil ?_
        refine wpS_addrI (i := 3) (d := some 54) (b := ob) (n := M.length) (j := k) rfl (by rfl) rfl rfl rfl (by omega) rfl ?_
        simp only [Act.put, List.setIfInBounds_toArray, List.set_cons_succ, List.set_cons_zero]
        refine wpS_setI (i := 4) (z := bI) (L2 := [_, _]) rfl (by rfl) rfl rfl rfl HM18.out 2 rfl rfl (by omega) covS_nil rfl ?_
        rintro W25 hm24 -
        obtain ⟨l2, hl2⟩ : ∃ l, l1.set k bI = l := ⟨_, rfl⟩
        have hl2n : l2.length = M.length := by rw [← hl2, List.length_set]; exact hl1n
        have hl2k : l2[k]? = some bI := by rw [← hl2, List.getElem?_set_self (by omega)]
        rw [hl2] at hm24
        have hl2h := Lib.hid hl2
        clear hl2
        have HM26 := Lib.hid hm24
        clear hm24
        refine wpS_nil ?_
        refine then_normal ?_
        refine wp_seq ?_
        by_cases he : bigsK now M k < eN <;> by_cases hb' : bN < hasK now m 16
        · have g1 : decide ((0 : Int) < z) = true := decide_eq_true (by have := hz.out; omega)
          have g2 : decide (bI < hv) = true := decide_eq_true (by have := hhv.out; have := hbi.out; omega)
          have hbig : Hid (bigB now bN m = true) := Lib.hid (decide_eq_true hb')
          have hstep : Hid (rnd0 now M (k + 1) = l2.set k (bI + 1)) := Lib.hid (by rw [rnd0_step hm, hbN.out, hbi.out, heN.out, hbig.out, hl1h.out]; rw [if_pos ⟨rfl, he⟩, ← hl2h.out, List.set_set])
          have he := Lib.hid he
          have hb' := Lib.hid hb'
          refine wp_region_N [(0, 1), (1, 1), (2, 1), (3, 1), (4, 1), (5, 1), (6, 1), (7, 1), (8, 1), (9, 1)] (by kernel_rfl) ?_
          refine wpS_this [0, 1, 2, 3, 4, 5, 6, 7, 8, 9] rfl (by kernel_rfl) (by simp only [pickL, nthL, List.cons_append, List.nil_append]; rfl) ?_
          repeat (go_big_quiet_step (fail))
          refine wpQuiet_nil ?_
          refine wpS_nil ?_
          refine then_normal ?_
          refine wp_cond_true rfl ?_
          refine wp_seq ?_
          refine wp_region_N [(0, 1), (1, 1), (2, 1), (3, 1), (4, 1), (5, 1), (6, 3)] (by kernel_rfl) ?_
          refine wpS_this [0, 1] rfl (by kernel_rfl) (by simp only [pickL, nthL, List.cons_append, List.nil_append]; rfl) ?_
          repeat (go_big_quiet_step (fail))
          refine wpQuiet_nil ?_
          refine wpS_addrI (i := 2) (d := some 67) (b := ob) (n := M.length) (j := k) rfl (by rfl) rfl rfl rfl (by omega) rfl ?_
          simp only [Act.put, List.setIfInBounds_toArray, List.set_cons_succ, List.set_cons_zero]
          refine wpS_load1 (i := 3) (d := some 68) (u := .int .i64 bI) rfl (by rfl) rfl rfl ((HM26.out.cellL 0 rfl k).trans (by rw [List.getElem?_map, hl2k]; rfl)) Try.underlying3 rfl rfl ?_
          simp only [Act.put, List.setIfInBounds_toArray, List.set_cons_succ, List.set_cons_zero]
          refine wpS_this [4] rfl (by kernel_rfl) (by simp only [pickL, nthL, List.cons_append, List.nil_append]; rfl) ?_
          repeat (go_big_quiet_step (fail))
          refine wpQuiet_nil ?_
          refine wpS_addrI (i := 5) (d := some 70) (b := ob) (n := M.length) (j := k) rfl (by rfl) rfl rfl rfl (by omega) rfl ?_
          simp only [Act.put, List.setIfInBounds_toArray, List.set_cons_succ, List.set_cons_zero]
          refine wpS_setI (i := 6) (z := (bI + 1)) (L2 := [_, _]) rfl (by rfl) rfl rfl rfl HM26.out 0 rfl rfl (by omega) covS_nil rfl ?_
          rintro W28 hm27 -
          have HM29 := Lib.hid hm27
          clear hm27
          refine wpS_nil ?_
          refine then_normal ?_
          refine wp_region_N [(0, 1), (1, 1), (2, 1)] (by kernel_rfl) ?_
          refine wpS_this [0, 1, 2] rfl (by kernel_rfl) (by simp only [pickL, nthL, List.cons_append, List.nil_append]; rfl) ?_
          repeat (go_big_quiet_step (fail))
          refine wpQuiet_nil ?_
          refine wpS_nil ?_
          refine block_normal ?_
          refine then_normal ?_
          refine wp_region_N [(0, 1), (1, 1)] (by kernel_rfl) ?_
          refine wpS_this [0, 1] rfl (by kernel_rfl) (by simp only [pickL, nthL, List.cons_append, List.nil_append]; rfl) ?_
          repeat (go_big_quiet_step (fail))
          refine wpQuiet_nil ?_
          refine wpS_nil ?_
          refine then_normal ?_
          refine ⟨by kernel_rfl, ?_⟩
          have hE := bigsK_succ (now := now) hm
          rw [hbN.out, hbig.out] at hE
          refine ⟨M.length - (k + 1), by omega, k + 1, rfl, rfl, ?_, hk1, ?_⟩
          · have hz3 := hz.out
            rw [hE]
            simp only [if_true]
            exact congrArg (Value.int .i64) (by omega)
          · rw [hstep.out]
            exact (Mem.only (M := [_, _, _]) HM29.out [1, 1, 0] rfl)
        · have g1 : decide ((0 : Int) < z) = true := decide_eq_true (by have := hz.out; omega)
          have g2 : decide (bI < hv) = false := decide_eq_false (by have := hhv.out; have := hbi.out; omega)
          have hbig : Hid (bigB now bN m = false) := Lib.hid (decide_eq_false hb')
          have hstep : Hid (rnd0 now M (k + 1) = l2) := Lib.hid (by rw [rnd0_step hm, hbN.out, hbi.out, heN.out, hbig.out, hl1h.out]; rw [if_neg (by rintro ⟨h1, h2⟩; first | exact he h2 | simp at h1), Int.add_zero, hl2h.out])
          have he := Lib.hid he
          have hb' := Lib.hid hb'
          refine wp_region_N [(0, 1), (1, 1), (2, 1), (3, 1), (4, 1), (5, 1), (6, 1), (7, 1), (8, 1), (9, 1)] (by kernel_rfl) ?_
          refine wpS_this [0, 1, 2, 3, 4, 5, 6, 7, 8, 9] rfl (by kernel_rfl) (by simp only [pickL, nthL, List.cons_append, List.nil_append]; rfl) ?_
          repeat (go_big_quiet_step (fail))
          refine wpQuiet_nil ?_
          refine wpS_nil ?_
          refine then_normal ?_
          refine wp_cond_false rfl ?_
          refine wp_skip ?_
          refine block_normal ?_
          refine then_normal ?_
          refine wp_region_N [(0, 1), (1, 1)] (by kernel_rfl) ?_
          refine wpS_this [0, 1] rfl (by kernel_rfl) (by simp only [pickL, nthL, List.cons_append, List.nil_append]; rfl) ?_
          repeat (go_big_quiet_step (fail))
          refine wpQuiet_nil ?_
          refine wpS_nil ?_
          refine then_normal ?_
          refine ⟨by kernel_rfl, ?_⟩
          have hE := bigsK_succ (now := now) hm
          rw [hbN.out, hbig.out] at hE
          refine ⟨M.length - (k + 1), by omega, k + 1, rfl, rfl, ?_, hk1, ?_⟩
          · have hz3 := hz.out
            rw [hE]
            simp only [if_false, Bool.false_eq_true]
            exact congrArg (Value.int .i64) (by omega)
          · rw [hstep.out]
            exact (Mem.only (M := [_, _, _]) HM26.out [1, 1, 0] rfl)
        · have g1 : decide ((0 : Int) < z) = false := decide_eq_false (by have := hz.out; omega)
          have g2 : decide (bI < hv) = true := decide_eq_true (by have := hhv.out; have := hbi.out; omega)
          have hbig : Hid (bigB now bN m = true) := Lib.hid (decide_eq_true hb')
          have hstep : Hid (rnd0 now M (k + 1) = l2) := Lib.hid (by rw [rnd0_step hm, hbN.out, hbi.out, heN.out, hbig.out, hl1h.out]; rw [if_neg (by rintro ⟨h1, h2⟩; first | exact he h2 | simp at h1), Int.add_zero, hl2h.out])
          have he := Lib.hid he
          have hb' := Lib.hid hb'
          refine wp_region_N [(0, 1), (1, 1), (2, 1), (3, 1), (4, 1), (5, 1), (6, 1), (7, 1), (8, 1), (9, 1)] (by kernel_rfl) ?_
          refine wpS_this [0, 1, 2, 3, 4, 5, 6, 7, 8, 9] rfl (by kernel_rfl) (by simp only [pickL, nthL, List.cons_append, List.nil_append]; rfl) ?_
          repeat (go_big_quiet_step (fail))
          refine wpQuiet_nil ?_
          refine wpS_nil ?_
          refine then_normal ?_
          refine wp_cond_false rfl ?_
          refine wp_skip ?_
          refine block_normal ?_
          refine then_normal ?_
          refine wp_region_N [(0, 1), (1, 1)] (by kernel_rfl) ?_
          refine wpS_this [0, 1] rfl (by kernel_rfl) (by simp only [pickL, nthL, List.cons_append, List.nil_append]; rfl) ?_
          repeat (go_big_quiet_step (fail))
          refine wpQuiet_nil ?_
          refine wpS_nil ?_
          refine then_normal ?_
          refine ⟨by kernel_rfl, ?_⟩
          have hE := bigsK_succ (now := now) hm
          rw [hbN.out, hbig.out] at hE
          refine ⟨M.length - (k + 1), by omega, k + 1, rfl, rfl, ?_, hk1, ?_⟩
          · have hz3 := hz.out
            rw [hE]
            simp only [if_true]
            exact congrArg (Value.int .i64) (by omega)
          · rw [hstep.out]
            exact (Mem.only (M := [_, _, _]) HM26.out [1, 1, 0] rfl)
        · have g1 : decide ((0 : Int) < z) = false := decide_eq_false (by have := hz.out; omega)
          have g2 : decide (bI < hv) = false := decide_eq_false (by have := hhv.out; have := hbi.out; omega)
          have hbig : Hid (bigB now bN m = false) := Lib.hid (decide_eq_false hb')
          have hstep : Hid (rnd0 now M (k + 1) = l2) := Lib.hid (by rw [rnd0_step hm, hbN.out, hbi.out, heN.out, hbig.out, hl1h.out]; rw [if_neg (by rintro ⟨h1, h2⟩; first | exact he h2 | simp at h1), Int.add_zero, hl2h.out])
          have he := Lib.hid he
          have hb' := Lib.hid hb'
          refine wp_region_N [(0, 1), (1, 1), (2, 1), (3, 1), (4, 1), (5, 1), (6, 1), (7, 1), (8, 1), (9, 1)] (by kernel_rfl) ?_
          refine wpS_this [0, 1, 2, 3, 4, 5, 6, 7, 8, 9] rfl (by kernel_rfl) (by simp only [pickL, nthL, List.cons_append, List.nil_append]; rfl) ?_
          repeat (go_big_quiet_step (fail))
          refine wpQuiet_nil ?_
          refine wpS_nil ?_
          refine then_normal ?_
          refine wp_cond_false rfl ?_
          refine wp_skip ?_
          refine block_normal ?_
          refine then_normal ?_
          refine wp_region_N [(0, 1), (1, 1)] (by kernel_rfl) ?_
          refine wpS_this [0, 1] rfl (by kernel_rfl) (by simp only [pickL, nthL, List.cons_append, List.nil_append]; rfl) ?_
          repeat (go_big_quiet_step (fail))
          refine wpQuiet_nil ?_
          refine wpS_nil ?_
          refine then_normal ?_
          refine ⟨by kernel_rfl, ?_⟩
          have hE := bigsK_succ (now := now) hm
          rw [hbN.out, hbig.out] at hE
          refine ⟨M.length - (k + 1), by omega, k + 1, rfl, rfl, ?_, hk1, ?_⟩
          · have hz3 := hz.out
            rw [hE]
            simp only [if_false, Bool.false_eq_true]
            exact congrArg (Value.int .i64) (by omega)
          · rw [hstep.out]
            exact (Mem.only (M := [_, _, _]) HM26.out [1, 1, 0] rfl)
    · have hge0 : Hid (M.length ≤ k) := Lib.hid (by have : ¬ (k : Int) < (M.length : Int) := (by simpa using h14); omega)
      clear h14
      refine wp_exit ?_
      refine then_exit (then_exit (block_exit ?_))
      refine block_normal ?_
      refine then_normal ?_
      refine wp_region_N [(0, 1), (1, 1)] (by kernel_rfl) ?_
      refine wpS_this [0, 1] rfl (by kernel_rfl) (by simp only [pickL, nthL, List.cons_append, List.nil_append]; rfl) ?_
      repeat (go_big_quiet_step (fail))
      refine wpQuiet_nil ?_
      refine wpS_nil ?_
      refine then_normal ?_
      refine rounds_step ?_
      refine wp_seq ?_
      refine wp_region_N [(0, 1)] (by kernel_rfl) ?_
      refine wpS_this [0] rfl (by kernel_rfl) (by simp only [pickL, nthL, List.cons_append, List.nil_append]; rfl) ?_
      repeat (go_big_quiet_step (fail))
      refine wpQuiet_nil ?_
      refine wpS_nil ?_
      refine then_normal ?_
      refine wp_seq ?_
      refine wp_cond_true rfl ?_
      refine wp_skip ?_
      refine then_normal ?_
      refine wp_seq ?_
      refine wp_block ?_
      refine wp_seq ?_
      refine wp_region_N [(0, 1), (1, 1)] (by kernel_rfl) ?_
      refine wpS_this [0, 1] rfl (by kernel_rfl) (by simp only [pickL, nthL, List.cons_append, List.nil_append]; rfl) ?_
      repeat (go_big_quiet_step (fail))
      refine wpQuiet_nil ?_
      refine wpS_nil ?_
      refine then_normal ?_
      refine wp_seq ?_
      refine wp_region_N [(0, 1), (1, 1), (2, 1)] (by kernel_rfl) ?_
      refine wpS_this [0, 1, 2] rfl (by kernel_rfl) (by simp only [pickL, nthL, List.cons_append, List.nil_append]; rfl) ?_
      repeat (go_big_quiet_step (fail))
      refine wpQuiet_nil ?_
      refine wpS_nil ?_
      refine then_normal ?_
      refine wp_block ?_
      refine wp_loop_F [7, 10, 11, 12, 13, 33, 34, 35, 36, 37, 38, 39, 40, 41, 42, 43, 44, 45, 46, 47, 48, 49, 50, 51, 52, 53, 54, 55, 56, 57, 58, 59, 60, 61, 62, 63, 64, 65, 66, 67, 68, 69, 70, 71, 72, 73] (fun n vs W' => ∃ k : Nat, n = M.length - k ∧ vs 33 = .int .i64 (k : Int) ∧ vs 7 = .int .i64 ((eN - bigsK now M M.length - smallsK now M k : Nat) : Int) ∧ k ≤ M.length ∧ Mem [R, rowT elemI (.slice mp M.length mc) M, intsT ob (rnd1 now M k)] H w W') (n0 := M.length) ?_ ?_
      · have hkm : k = M.length := by have := hge0.out; omega
        subst hkm
        refine ⟨0, rfl, rfl, ?_, Nat.zero_le _, ?_⟩
        · rw [← hz.out]
          simp [smallsK]
        · rw [← rnd0_end, hl1h.out]
          exact (Mem.only (M := [_, _, _]) HM13.out [0, 0, 0] rfl)
      rintro n vs W' ⟨k, rfl, e33, e7, hk, hmm⟩
      simp only [putAll, List.map_cons, List.map_nil, Act.put, List.setIfInBounds_toArray, List.set_cons_succ, List.set_cons_zero]
      rw [e33, e7]
      clear e33 e7
      obtain ⟨z, hz'⟩ : ∃ z : Int, ((eN - bigsK now M M.length - smallsK now M k : Nat) : Int) = z := ⟨_, rfl⟩
      rw [hz']
      have hz0 : 0 ≤ z ∧ z ≤ 16 := by rw [← hz']; omega
      obtain ⟨hz1, hz2⟩ := hz0
      have hz := Lib.hid hz'
      clear hz'
      obtain ⟨l1, hl1⟩ : ∃ l, rnd1 now M k = l := ⟨_, rfl⟩
      have hl1n : l1.length = M.length := by rw [← hl1]; exact rnd1_len now M hk
      rw [hl1] at hmm
      have hl1h := Lib.hid hl1
      clear hl1
      have HM30 := Lib.hid hmm
      clear hmm
      refine wp_seq ?_
      refine wp_region_N [(0, 1)] (by kernel_rfl) ?_
      refine wpS_this [0] rfl (by kernel_rfl) (by simp only [pickL, nthL, List.cons_append, List.nil_append]; rfl) ?_
      repeat (go_big_quiet_step (fail))
      refine wpQuiet_nil ?_
      refine wpS_nil ?_
      refine then_normal ?_
      refine wp_seq ?_
      refine wp_cond_split rfl (fun h31 => ?_) (fun h31 => ?_)
      · have hk1 : k + 1 ≤ M.length := by have : (k : Int) < ((M.length : Nat) : Int) := (by simpa using h31); omega
        clear h31
        obtain ⟨m, hm⟩ : ∃ y, M[k]? = some y := ⟨_, List.getElem?_eq_getElem hk1⟩
        refine wp_skip ?_
        refine then_normal ?_
        refine wp_seq ?_
        refine wp_block ?_
        refine wp_seq ?_
        refine wp_region_N [(0, 1), (1, 1), (2, 1), (3, 1), (4, 1)] (by kernel_rfl) ?_
        refine wpS_this [0] rfl (by kernel_rfl) (by simp only [pickL, nthL, List.cons_append, List.nil_append]; rfl) ?_
        repeat (go_big_quiet_step (fail))
        refine wpQuiet_nil ?_
        refine wpS_index (E := elemI) (i := 1) (d := some 36) rfl (by rfl) rfl rfl rfl (rowAt_src (HM30.out.src 1 rfl rowT_reads)) (hm) rfl ?_
        intro eb32 eo33 hc34
        simp only [Act.put, List.setIfInBounds_toArray, List.set_cons_succ, List.set_cons_zero]
        refine wpS_load1 (i := 2) (d := some 37) (u := .int .i64 m) rfl (by rfl) rfl rfl (hc34 0 _ rfl) Try.underlying3 rfl rfl ?_
        simp only [Act.put, List.setIfInBounds_toArray, List.set_cons_succ, List.set_cons_zero]
        refine wpS_this [3, 4] rfl (by kernel_rfl) (by simp only [pickL, nthL, List.cons_append, List.nil_append]; rfl) ?_
        repeat (go_big_quiet_step (fail))
        refine wpQuiet_nil ?_
        refine wpS_nil ?_
        refine then_normal ?_
        refine wp_seq ?_
        refine wp_region_N [(0, 1)] (by kernel_rfl) ?_
        refine wpS_this [0] rfl (by kernel_rfl) (by simp only [pickL, nthL, List.cons_append, List.nil_append]; rfl) ?_
        repeat (go_big_quiet_step (fail))
        refine wpQuiet_nil ?_
        refine wpS_nil ?_
        refine then_normal ?_
        refine wp_seq ?_
        refine wp_seq ?_
        refine wp_region_N [(0, 1)] (by kernel_rfl) ?_
        refine wpS_this [0] rfl (by kernel_rfl) (by simp only [pickL, nthL, List.cons_append, List.nil_append]; rfl) ?_
        repeat (go_big_quiet_step (fail))
        refine wpQuiet_nil ?_
        refine wpS_nil ?_
        refine then_normal ?_
        refine wp_block ?_
        refine wp_loop_F [12, 13, 38, 39, 40, 41, 42, 43, 44, 45, 46, 47, 48] (fun n ws W' => ∃ p : Nat, n = 16 - p ∧ ws 38 = .int .i64 (p : Int) ∧ ws 12 = .int .i64 (hasK now m p : Int) ∧ p ≤ 16 ∧ Mem [R, rowT elemI (.slice mp M.length mc) M, intsT ob l1] H w W') (n0 := 16) ?_ ?_
        · exact ⟨0, rfl, rfl, rfl, Nat.zero_le _, (Mem.only (M := [_, _, _]) HM30.out [0, 0, 0] rfl)⟩
        rintro n ws W' ⟨p, rfl, e38, e12, hp, hm⟩
        simp only [putAll, List.map_cons, List.map_nil, Act.put, List.setIfInBounds_toArray, List.set_cons_succ, List.set_cons_zero]
        rw [e38, e12]
        clear e38 e12
        have hhb := hasK_le now m p
        have HM35 := Lib.hid hm
        clear hm
        refine wp_seq ?_
        refine wp_region_N [(0, 1)] (by kernel_rfl) ?_
        refine wpS_this [0] rfl (by kernel_rfl) (by simp only [pickL, nthL, List.cons_append, List.nil_append]; rfl) ?_
        repeat (go_big_quiet_step (fail))
        refine wpQuiet_nil ?_
        refine wpS_nil ?_
        refine then_normal ?_
        refine wp_seq ?_
        refine wp_cond_split rfl (fun h36 => ?_) (fun h36 => ?_)
        · have hp1 : p + 1 ≤ 16 := by have : (p : Int) < ((16 : Nat) : Int) := (by simpa using h36); omega
          clear h36
          refine wp_skip ?_
          refine then_normal ?_
          refine wp_seq ?_
          refine wp_block ?_
          refine wp_seq ?_
          refine wp_region_N [(0, 1), (1, 1)] (by kernel_rfl) ?_
          refine wpS_this [0, 1] rfl (by kernel_rfl) (by simp only [pickL, nthL, List.cons_append, List.nil_append]; rfl) ?_
          repeat (go_big_quiet_step (fail))
          refine wpQuiet_nil ?_
          refine wpS_nil ?_
          refine then_normal ?_
          refine wp_seq ?_
          refine wp_region_N [(0, 1), (1, 1), (2, 3), (3, 1), (4, 1)] (by kernel_rfl) ?_
          refine wpS_this [0, 1] rfl (by kernel_rfl) (by simp only [pickL, nthL, List.cons_append, List.nil_append]; rfl) ?_
          repeat (go_big_quiet_step (fail))
          refine wpQuiet_nil ?_
          refine wpS_does2 (i := 2) (d := some 43) (rem := [_, _]) (out := [_, _, _]) rfl (by rfl) rfl Try.call25 (rat_d R vn now p hN) rfl rfl HM35.out [0] rfl covS_nil rfl rfl ?_
          rintro W38 hm37 -
          have HM39 := Lib.hid hm37
          clear hm37
          simp only [Act.put, List.setIfInBounds_toArray, List.set_cons_succ, List.set_cons_zero]
          refine wpS_this [3, 4] rfl (by kernel_rfl) (by simp only [pickL, nthL, List.cons_append, List.nil_append]; rfl) ?_
          repeat (go_big_quiet_step (fail))
          refine wpQuiet_nil ?_
          refine wpS_nil ?_
          refine then_normal ?_
          refine wp_cond_split rfl (fun h40 => ?_) (fun h40 => ?_)
          · have h16 := Lib.hid (show atL now p = m by simpa using h40)
            clear h40
            refine wp_region_N [(0, 1), (1, 1), (2, 1)] (by kernel_rfl) ?_
            refine wpS_this [0, 1, 2] rfl (by kernel_rfl) (by simp only [pickL, nthL, List.cons_append, List.nil_append]; rfl) ?_
            repeat (go_big_quiet_step (fail))
            refine wpQuiet_nil ?_
            refine wpS_nil ?_
            refine block_normal ?_
            refine then_normal ?_
            refine wp_region_N [(0, 1), (1, 1)] (by kernel_rfl) ?_
            refine wpS_this [0, 1] rfl (by kernel_rfl) (by simp only [pickL, nthL, List.cons_append, List.nil_append]; rfl) ?_
            repeat (go_big_quiet_step (fail))
            refine wpQuiet_nil ?_
            refine wpS_nil ?_
            refine then_normal ?_
            refine ⟨by kernel_rfl, ?_⟩
            refine ⟨16 - (p + 1), by omega, p + 1, rfl, rfl, ?_, hp1, (Mem.only (M := [_, _, _]) HM39.out [0, 0, 0] rfl)⟩
            rw [hasK_succ, if_pos h16.out]
            rfl
          · have h16 := Lib.hid (show ¬ atL now p = m by simpa using h40)
            clear h40
            refine wp_skip ?_
            refine block_normal ?_
            refine then_normal ?_
            refine wp_region_N [(0, 1), (1, 1)] (by kernel_rfl) ?_
            refine wpS_this [0, 1] rfl (by kernel_rfl) (by simp only [pickL, nthL, List.cons_append, List.nil_append]; rfl) ?_
            repeat (go_big_quiet_step (fail))
            refine wpQuiet_nil ?_
            refine wpS_nil ?_
            refine then_normal ?_
            refine ⟨by kernel_rfl, ?_⟩
            refine ⟨16 - (p + 1), by omega, p + 1, rfl, rfl, ?_, hp1, (Mem.only (M := [_, _, _]) HM39.out [0, 0, 0] rfl)⟩
            rw [hasK_succ, if_neg h16.out]
            rfl
        · have hp16 : p = 16 := by have : ¬ (p : Int) < 16 := (by simpa using h36); omega
          clear h36
          subst hp16
          obtain ⟨hv, hhv'⟩ : ∃ z : Int, (hasK now m 16 : Int) = z := ⟨_, rfl⟩
          rw [hhv']
          have hhv := Lib.hid hhv'
          clear hhv'
          refine wp_exit ?_
          refine then_exit (then_exit (block_exit ?_))
          refine then_normal ?_
          refine wp_seq ?_
          refine wp_seq ?_
          refine wp_region_N [(0, 1), (1, 1)] (by kernel_rfl) ?_
          refine wpS_this [0, 1] rfl (by kernel_rfl) (by simp only [pickL, nthL, List.cons_append, List.nil_append]; rfl) ?_
          repeat (go_big_quiet_step (fail))
          refine wpQuiet_nil ?_
          refine wpS_nil ?_
          refine then_normal ?_
          refine wp_cond_false rfl ?_
          refine wp_skip ?_
          refine then_normal ?_
          refine wp_seq ?_
          by_cases he : bigsK now M M.length + smallsK now M k < eN <;> by_cases hb' : bN < hasK now m 16
          · have g1 : decide ((0 : Int) < z) = true := decide_eq_true (by have := hz.out; omega)
            have g2 : decide (bI < hv) = true := decide_eq_true (by have := hhv.out; have := hbi.out; omega)
            have hbig : Hid (bigB now bN m = true) := Lib.hid (decide_eq_true hb')
            have hq := quota_at (now := now) hnd.out hm
            rw [hbN.out, hbi.out, heN.out, hbig.out] at hq
            have hat := rnd1_at (now := now) hm
            rw [hbN.out, hbi.out, heN.out, hbig.out, hl1h.out] at hat
            have hstep : Hid (rnd1 now M (k + 1) = l1) := Lib.hid (by rw [rnd1_step hm, hl1h.out, hq]; exact set_same (hat.trans (by simp)))
            clear hq hat
            have he := Lib.hid he
            have hb' := Lib.hid hb'
            refine wp_region_N [(0, 1), (1, 1), (2, 1), (3, 1), (4, 1), (5, 1), (6, 1), (7, 1), (8, 1), (9, 1)] (by kernel_rfl) ?_
            refine wpS_this [0, 1, 2, 3, 4, 5, 6, 7, 8, 9] rfl (by kernel_rfl) (by simp only [pickL, nthL, List.cons_append, List.nil_append]; rfl) ?_
            repeat (go_big_quiet_step (fail))
            refine wpQuiet_nil ?_
            refine wpS_nil ?_
            refine then_normal ?_
            refine wp_cond_false rfl ?_
            refine wp_skip ?_
            refine block_normal ?_
            refine then_normal ?_
            refine wp_region_N [(0, 1), (1, 1)] (by kernel_rfl) ?_
            refine wpS_this [0, 1] rfl (by kernel_rfl) (by simp only [pickL, nthL, List.cons_append, List.nil_append]; rfl) ?_
            repeat (go_big_quiet_step (fail))
            refine wpQuiet_nil ?_
            refine wpS_nil ?_
            refine then_normal ?_
            refine ⟨by kernel_rfl, ?_⟩
            have hE := smallsK_succ (now := now) hm
            rw [hbN.out, hbig.out] at hE
            refine ⟨M.length - (k + 1), by omega, k + 1, rfl, rfl, ?_, hk1, ?_⟩
            · have hz3 := hz.out
              rw [hE]
              simp only [if_true]
              exact congrArg (Value.int .i64) (by omega)
            · rw [hstep.out]
              exact (Mem.only (M := [_, _, _]) HM35.out [0, 0, 0] rfl)
          · have g1 : decide ((0 : Int) < z) = true := decide_eq_true (by have := hz.out; omega)
            have g2 : decide (bI < hv) = false := decide_eq_false (by have := hhv.out; have := hbi.out; omega)
            have hbig : Hid (bigB now bN m = false) := Lib.hid (decide_eq_false hb')
            have hq := quota_at (now := now) hnd.out hm
            rw [hbN.out, hbi.out, heN.out, hbig.out] at hq
            have hat := rnd1_at (now := now) hm
            rw [hbN.out, hbi.out, heN.out, hbig.out, hl1h.out] at hat
            rw [if_neg (by rintro ⟨h1, _⟩; simp at h1), Int.add_zero] at hat
            have hatk := Lib.hid hat
            have hstep : Hid (rnd1 now M (k + 1) = l1.set k (bI + 1)) := Lib.hid (by rw [rnd1_step hm, hl1h.out, hq, if_pos (by simpa using he)])
            clear hq hat
            have he := Lib.hid he
            have hb' := Lib.hid hb'
            refine wp_region_N [(0, 1), (1, 1), (2, 1), (3, 1), (4, 1), (5, 1), (6, 1), (7, 1), (8, 1), (9, 1)] (by kernel_rfl) ?_
            refine wpS_this [0, 1, 2, 3, 4, 5, 6, 7, 8, 9] rfl (by kernel_rfl) (by simp only [pickL, nthL, List.cons_append, List.nil_append]; rfl) ?_
            repeat (go_big_quiet_step (fail))
            refine wpQuiet_nil ?_
            refine wpS_nil ?_
            refine then_normal ?_
            refine wp_cond_true rfl ?_
            refine wp_seq ?_
            refine wp_region_N [(0, 1), (1, 1), (2, 1), (3, 1), (4, 1), (5, 1), (6, 3)] (by kernel_rfl) ?_
            refine wpS_this [0, 1] rfl (by kernel_rfl) (by simp only [pickL, nthL, List.cons_append, List.nil_append]; rfl) ?_
            repeat (go_big_quiet_step (fail))
            refine wpQuiet_nil ?_
            refine wpS_addrI (i := 2) (d := some 67) (b := ob) (n := M.length) (j := k) rfl (by rfl) rfl rfl rfl (by omega) rfl ?_
            simp only [Act.put, List.setIfInBounds_toArray, List.set_cons_succ, List.set_cons_zero]
            refine wpS_load1 (i := 3) (d := some 68) (u := .int .i64 bI) rfl (by rfl) rfl rfl ((HM35.out.cellL 2 rfl k).trans (by rw [List.getElem?_map, hatk.out]; rfl)) Try.underlying3 rfl rfl ?_
            simp only [Act.put, List.setIfInBounds_toArray, List.set_cons_succ, List.set_cons_zero]
            refine wpS_this [4] rfl (by kernel_rfl) (by simp only [pickL, nthL, List.cons_append, List.nil_append]; rfl) ?_
            repeat (go_big_quiet_step (fail))
            refine wpQuiet_nil ?_
            refine wpS_addrI (i := 5) (d := some 70) (b := ob) (n := M.length) (j := k) rfl (by rfl) rfl rfl rfl (by omega) rfl ?_
            simp only [Act.put, List.setIfInBounds_toArray, List.set_cons_succ, List.set_cons_zero]
            refine wpS_setI (i := 6) (z := (bI + 1)) (L2 := [_, _]) rfl (by rfl) rfl rfl rfl HM35.out 2 rfl rfl (by omega) covS_nil rfl ?_
            rintro W42 hm41 -
            have HM43 := Lib.hid hm41
            clear hm41
            refine wpS_nil ?_
            refine then_normal ?_
            refine wp_region_N [(0, 1), (1, 1), (2, 1)] (by kernel_rfl) ?_
            refine wpS_this [0, 1, 2] rfl (by kernel_rfl) (by simp only [pickL, nthL, List.cons_append, List.nil_append]; rfl) ?_
            repeat (go_big_quiet_step (fail))
            refine wpQuiet_nil ?_
            refine wpS_nil ?_
            refine block_normal ?_
            refine then_normal ?_
            refine wp_region_N [(0, 1), (1, 1)] (by kernel_rfl) ?_
            refine wpS_this [0, 1] rfl (by kernel_rfl) (by simp only [pickL, nthL, List.cons_append, List.nil_append]; rfl) ?_
            repeat (go_big_quiet_step (fail))
            refine wpQuiet_nil ?_
            refine wpS_nil ?_
            refine then_normal ?_
            refine ⟨by kernel_rfl, ?_⟩
            have hE := smallsK_succ (now := now) hm
            rw [hbN.out, hbig.out] at hE
            refine ⟨M.length - (k + 1), by omega, k + 1, rfl, rfl, ?_, hk1, ?_⟩
            · have hz3 := hz.out
              rw [hE]
              simp only [if_false, Bool.false_eq_true]
              exact congrArg (Value.int .i64) (by omega)
            · rw [hstep.out]
              exact (Mem.only (M := [_, _, _]) HM43.out [1, 1, 0] rfl)
          · have g1 : decide ((0 : Int) < z) = false := decide_eq_false (by have := hz.out; omega)
            have g2 : decide (bI < hv) = true := decide_eq_true (by have := hhv.out; have := hbi.out; omega)
            have hbig : Hid (bigB now bN m = true) := Lib.hid (decide_eq_true hb')
            have hq := quota_at (now := now) hnd.out hm
            rw [hbN.out, hbi.out, heN.out, hbig.out] at hq
            have hat := rnd1_at (now := now) hm
            rw [hbN.out, hbi.out, heN.out, hbig.out, hl1h.out] at hat
            have hstep : Hid (rnd1 now M (k + 1) = l1) := Lib.hid (by rw [rnd1_step hm, hl1h.out, hq]; exact set_same (hat.trans (by simp)))
            clear hq hat
            have he := Lib.hid he
            have hb' := Lib.hid hb'
            refine wp_region_N [(0, 1), (1, 1), (2, 1), (3, 1), (4, 1), (5, 1), (6, 1), (7, 1), (8, 1), (9, 1)] (by kernel_rfl) ?_
            refine wpS_this [0, 1, 2, 3, 4, 5, 6, 7, 8, 9] rfl (by kernel_rfl) (by simp only [pickL, nthL, List.cons_append, List.nil_append]; rfl) ?_
            repeat (go_big_quiet_step (fail))
            refine wpQuiet_nil ?_
            refine wpS_nil ?_
            refine then_normal ?_
            refine wp_cond_false rfl ?_
            refine wp_skip ?_
            refine block_normal ?_
            refine then_normal ?_
            refine wp_region_N [(0, 1), (1, 1)] (by kernel_rfl) ?_
            refine wpS_this [0, 1] rfl (by kernel_rfl) (by simp only [pickL, nthL, List.cons_append, List.nil_append]; rfl) ?_
            repeat (go_big_quiet_step (fail))
            refine wpQuiet_nil ?_
            refine wpS_nil ?_
            refine then_normal ?_
            refine ⟨by kernel_rfl, ?_⟩
            have hE := smallsK_succ (now := now) hm
            rw [hbN.out, hbig.out] at hE
            refine ⟨M.length - (k + 1), by omega, k + 1, rfl, rfl, ?_, hk1, ?_⟩
            · have hz3 := hz.out
              rw [hE]
              simp only [if_true]
              exact congrArg (Value.int .i64) (by omega)
            · rw [hstep.out]
              exact (Mem.only (M := [_, _, _]) HM35.out [0, 0, 0] rfl)
          · have g1 : decide ((0 : Int) < z) = false := decide_eq_false (by have := hz.out; omega)
            have g2 : decide (bI < hv) = false := decide_eq_false (by have := hhv.out; have := hbi.out; omega)
            have hbig : Hid (bigB now bN m = false) := Lib.hid (decide_eq_false hb')
            have hq := quota_at (now := now) hnd.out hm
            rw [hbN.out, hbi.out, heN.out, hbig.out] at hq
            have hat := rnd1_at (now := now) hm
            rw [hbN.out, hbi.out, heN.out, hbig.out, hl1h.out] at hat
            have hstep : Hid (rnd1 now M (k + 1) = l1) := Lib.hid (by rw [rnd1_step hm, hl1h.out, hq]; exact set_same (hat.trans (by simp [he])))
            clear hq hat
            have he := Lib.hid he
            have hb' := Lib.hid hb'
            refine wp_region_N [(0, 1), (1, 1), (2, 1), (3, 1), (4, 1), (5, 1), (6, 1), (7, 1), (8, 1), (9, 1)] (by kernel_rfl) ?_
            refine wpS_this [0, 1, 2, 3, 4, 5, 6, 7, 8, 9] rfl (by kernel_rfl) (by simp only [pickL, nthL, List.cons_append, List.nil_append]; rfl) ?_
            repeat (go_big_quiet_step (fail))
            refine wpQuiet_nil ?_
            refine wpS_nil ?_
            refine then_normal ?_
            refine wp_cond_false rfl ?_
            refine wp_skip ?_
            refine block_normal ?_
            refine then_normal ?_
            refine wp_region_N [(0, 1), (1, 1)] (by kernel_rfl) ?_
            refine wpS_this [0, 1] rfl (by kernel_rfl) (by simp only [pickL, nthL, List.cons_append, List.nil_append]; rfl) ?_
            repeat (go_big_quiet_step (fail))
            refine wpQuiet_nil ?_
            refine wpS_nil ?_
            refine then_normal ?_
            refine ⟨by kernel_rfl, ?_⟩
            have hE := smallsK_succ (now := now) hm
            rw [hbN.out, hbig.out] at hE
            refine ⟨M.length - (k + 1), by omega, k + 1, rfl, rfl, ?_, hk1, ?_⟩
            · have hz3 := hz.out
              rw [hE]
              simp only [if_false, Bool.false_eq_true]
              exact congrArg (Value.int .i64) (by omega)
            · rw [hstep.out]
              exact (Mem.only (M := [_, _, _]) HM35.out [0, 0, 0] rfl)
      · have hge1 : Hid (M.length ≤ k) := Lib.hid (by have : ¬ (k : Int) < (M.length : Int) := (by simpa using h31); omega)
        clear h31
        refine wp_exit ?_
        refine then_exit (then_exit (block_exit ?_))
        refine block_normal ?_
        refine then_normal ?_
        refine wp_region_N [(0, 1), (1, 1)] (by kernel_rfl) ?_
        refine wpS_this [0, 1] rfl (by kernel_rfl) (by simp only [pickL, nthL, List.cons_append, List.nil_append]; rfl) ?_
        repeat (go_big_quiet_step (fail))
        refine wpQuiet_nil ?_
        refine wpS_nil ?_
        refine then_normal ?_
        refine rounds_step ?_
        refine wp_seq ?_
        refine wp_region_N [(0, 1)] (by kernel_rfl) ?_
        refine wpS_this [0] rfl (by kernel_rfl) (by simp only [pickL, nthL, List.cons_append, List.nil_append]; rfl) ?_
        repeat (go_big_quiet_step (fail))
        refine wpQuiet_nil ?_
        refine wpS_nil ?_
        refine then_normal ?_
        refine wp_seq ?_
        refine wp_cond_false rfl ?_
        refine wp_exit ?_
        refine then_exit (then_exit (block_exit ?_))
        refine then_normal ?_
        refine wp_seq ?_
        refine wp_region_N [(0, 1), (1, 1)] (by kernel_rfl) ?_
        refine wpS_this [0, 1] rfl (by kernel_rfl) (by simp only [pickL, nthL, List.cons_append, List.nil_append]; rfl) ?_
        repeat (go_big_quiet_step (fail))
        refine wpQuiet_nil ?_
        refine wpS_nil ?_
        refine then_normal ?_
        refine wp_ret ?_
        refine bodyPost_ret (results_tmp rfl _ _ _) rfl ?_
        have hkm : k = M.length := by have := hge1.out; omega
        subst hkm
        have hfin := HM30.out
        rw [← hl1h.out, rnd1_end] at hfin
        exact doesU_ret (post := fun u => [quotaT now (peersOf ms (-1)) u, R]) (by rw [hMe.out]; exact Mem.addEx ob (Mem.addPr rfl (Mem.only (M := [_, _]) hfin [2, 0] rfl))) rfl

end Go.Proofs.Ytagpbmgeikjnjaa
