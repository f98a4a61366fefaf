/- Bags: BagTexts. -/
import Derived.Test.YtneeidedadlioaaBgB
namespace Go.Proofs.Ytneeidedadlioaa
open Go Go.RowKit Go.BigFrame

theorem run_headS {a : Act} {o : Oper} {W : World} {x h : Operand} {p : Option Addr} {n c k : Nat} (hk : k ≤ c) (ho : o.op = .slice 51 x none (some h) none) (hx : a.eval x = .slice p n c) (hh : a.eval h = .int .i64 (k : Int)) : (execOp a.eval o).run Try.prog W = .ok (.value (.slice p k c)) W := by
  have hu : Try.prog.underlying 51 = some (.slice (Try.prog.elem 51)) := Try.underlying51
  have e : (Try.prog.info? 9).map (·.size) = some 1 := by kernel_rfl
  have he : Try.prog.elem 51 = 9 := by kernel_rfl
  obtain ⟨i0, h1, h2⟩ := Option.map_eq_some_iff.1 e
  have hs : (sizeOf 9).run Try.prog W = .ok 1 W := by simp [sizeOf, typeInfo, h1, h2, go_sem]
  have h3 := run_slice_h (P := Try.prog) W 51 p n c hu .i64 (k : Int) (Int.natCast_nonneg k) (by exact_mod_cast hk)
  rw [he, hs] at h3
  unfold execOp
  simp only [ho, hx, hh, Option.map_none, Option.map_some, Sem.run_bind, run_sliceAt_slice W _ _ _ _ _ hu, h3, Result.andThen_ok]
  cases p <;> simp [sliced, go_sem]
theorem rowAt_take {α : Type} {E : Elem Try.prog α} {W : World} {p : Option Addr} {n c k : Nat} {l : List α} (h : RowAt E W (.slice p n c) l) (hn : l.length = n) (hk : k ≤ n) : RowAt E W (.slice p k c) (l.take k) := by
  rcases h with ⟨rfl, _⟩ | ⟨b, o, cap, he, hb, hc⟩
  · have : k = 0 := by rw [← hn] at hk; exact Nat.le_zero.1 hk
    subst this
    exact .inl ⟨rfl, _, _, rfl⟩
  · simp only [Value.slice.injEq] at he
    obtain ⟨rfl, _, rfl⟩ := he
    refine .inr ⟨b, o, c, ?_, hb, fun i x hx => hc i x ?_⟩
    · rw [List.length_take, Nat.min_eq_left (by omega)]
    · rw [List.getElem?_take] at hx
      split at hx
      · exact hx
      · cases hx
theorem rL {α : Type} {E : Elem Try.prog α} {v : Value} {xs : List α} {l : List At} (i : Nat) {A : At} (hi : l[i]? = some A) (hA : ∀ W H, A.p W H → RowAt E W v xs) : ∀ W H, (listT l).p W H → RowAt E W v xs := fun W H h => by
  obtain ⟨H1, H2, h1, _⟩ := stars_pick l i A hi h
  exact hA W H1 h1
theorem rOld {α : Type} {E : Elem Try.prog α} {W0 : World} {v : Value} {xs : List α} (hv : SrcE E W0 v xs) : ∀ W H, (oldT W0).p W H → RowAt E W v xs := fun _ _ h => OldA.row h hv.1
theorem nodup_ne {α : Type} {l : List α} (h : l.Nodup) {k i : Nat} {x y : α} (hk : l[k]? = some x) (hi : (l.take k)[i]? = some y) : x ≠ y := by
  rw [List.getElem?_take] at hi
  split at hi
  · rename_i hik
    intro e
    subst e
    have h1 := (List.getElem?_eq_some_iff.1 hk)
    have h2 := (List.getElem?_eq_some_iff.1 hi)
    obtain ⟨q1, e1⟩ := h1
    obtain ⟨q2, e2⟩ := h2
    have := (List.getElem_inj h (h₀ := q1) (h₁ := q2)).1 (e1.trans e2.symm)
    omega
  · cases hi
theorem bytes_eq {a b : ByteArray} (h : a = b) : (a.toList == b.toList) = true ∧ (a == b) = true := by
  subst h
  exact ⟨beq_self_eq_true _, by rw [beq_toListBytes]; exact beq_self_eq_true _⟩
theorem bytes_ne {a b : ByteArray} (h : a ≠ b) : (a.toList == b.toList) = false ∧ (a == b) = false := by
  have h1 : (a.toList == b.toList) = false := by rw [bytes_beq]; exact decide_eq_false h
  exact ⟨h1, by rw [beq_toListBytes]; exact h1⟩
def heldD (l : List Vl) (t : ByteArray) : Bool := l.any fun x => decide (x.2 = t)
theorem heldD_step {l : List Vl} {k : Nat} {x : Vl} (h : l[k]? = some x) (t : ByteArray) : heldD (l.take (k + 1)) t = (heldD (l.take k) t || decide (x.2 = t)) := by
  unfold heldD
  rw [List.take_add_one, h, List.any_append]
  simp
theorem heldT_step {l : List ByteArray} {k : Nat} {x : ByteArray} (h : l[k]? = some x) (t : ByteArray) : heldT (l.take (k + 1)) t = (heldT (l.take k) t || decide (x = t)) := by
  unfold heldT
  rw [List.take_add_one, h, List.any_append]
  simp
theorem heldD_iff {l : List Vl} {t : ByteArray} : heldD l t = true ↔ ∃ x ∈ l, x.2 = t := by
  unfold heldD
  rw [List.any_eq_true]
  exact ⟨fun ⟨x, h, e⟩ => ⟨x, h, of_decide_eq_true e⟩, fun ⟨x, h, e⟩ => ⟨x, h, decide_eq_true e⟩⟩
theorem texts_held {l : List Vl} {T : List ByteArray} (h : textsL l [] = T) {k : Nat} {y : ByteArray} (hy : T[k]? = some y) : heldD l y = true := by
  have h1 := List.mem_of_getElem? hy
  rw [← h, textsL_mem] at h1
  rcases h1 with h1 | h1
  · cases h1
  · exact heldD_iff.2 h1
theorem texts_all {l : List Vl} {T : List ByteArray} (h : textsL l [] = T) {k : Nat} {x : Vl} (hx : l[k]? = some x) : heldT T x.2 = true := by
  rw [heldT_iff, ← h, textsL_mem]
  exact .inr ⟨x, List.mem_of_getElem? hx, rfl⟩
set_option maxHeartbeats 4000000 in
set_option maxRecDepth 100000 in
theorem btextsLaw_d (W0 : World) (va : Value) (a : Bg) (ha : SrcE elemV W0 va a.v) (la : a.v.length ≤ 4398046510976) : Does Try.prog 6 #[bgV a.k va] [oldT W0] (.bool true) [oldT W0] := by
  intro w H hp
  have HM0 := Lib.hid (mem_refl hp)
  clear hp
  obtain ⟨pa, ca, rfl⟩ := row_form ha
  go_enter Try.func6, Try.ntmps6
  refine wp_seq ?_
  refine wp_region_N [(0, 3), (1, 1)] (by kernel_rfl) ?_
  refine wpS_boxA (i := 0) (dd := 1) rfl (by rfl) rfl rfl HM0.out covS_nil rfl ?_
  rintro b3 W2 hm1 -
  have HM4 := Lib.hid hm1
  clear hm1
  simp only [Act.put, List.setIfInBounds_toArray, List.set_cons_succ, List.set_cons_zero]
  refine wpS_this [1] rfl (by kernel_rfl) (by simp only [pickL, nthL, List.cons_append, List.nil_append]; rfl) ?_
  repeat (go_big_quiet_step (fail))
  refine wpQuiet_nil ?_
  refine wpS_nil ?_
  refine then_normal ?_
  refine wp_seq ?_
  refine wp_seq ?_
  obtain ⟨z, hz'⟩ := int_letter (heavyV a.v)
  have hz := Lib.hid hz'
  clear hz'
  by_cases h1 : 0 < z
  · have gz := decide_eq_true h1
    replace h1 := Lib.hid h1
    refine wp_region_N [(0, 1), (1, 3), (2, 3), (3, 1)] (by kernel_rfl) ?_
    refine wpS_loadA (i := 0) (d := some 16) (cells := bgC (a.k) (.slice pa a.v.length ca)) rfl (by rfl) rfl rfl (HM4.out.part 0 rfl (bgC_all)) Try.underlying27 rfl (by kernel_rfl) rfl ?_
    simp only [Act.put, List.setIfInBounds_toArray, List.set_cons_succ, List.set_cons_zero]
    refine wpS_build1 elemB (i := 1) (dd := 17) (y := ⟨a.k, pa, a.v.length, ca⟩) rfl (by rfl) rfl rfl rfl (by decide) HM4.out covS_nil rfl ?_
    rintro b7 W8 hm9 -
    have HM10 := Lib.hid hm9
    clear hm9
    simp only [Act.put, List.setIfInBounds_toArray, List.set_cons_succ, List.set_cons_zero]
    refine wpS_does1 (i := 2) (d := some 18) (rem := [_]) (out := [_, _, _]) rfl (by rfl) rfl Try.call15 (Does.ofList (bheavy_d (listT [_, _]) _ ⟨a.k, pa, a.v.length, ca⟩ a.v (rL 0 rfl vRow) (rL 1 rfl (rOld ha)) rfl la)) rfl HM10.out [0, 1] rfl covS_nil rfl rfl ?_
    rintro W12 hm11 -
    rw [hz.out]
    have HM13 := Lib.hid hm11
    clear hm11
    simp only [Act.put, List.setIfInBounds_toArray, List.set_cons_succ, List.set_cons_zero]
    refine wpS_this [3] rfl (by kernel_rfl) (by simp only [pickL, nthL, List.cons_append, List.nil_append]; rfl) ?_
    repeat (go_big_quiet_step (fail))
    refine wpQuiet_nil ?_
    refine wpS_nil ?_
    refine then_normal ?_
    refine wp_cond_true rfl ?_
    refine wp_seq ?_
    refine wp_region_N [(0, 3), (1, 1)] (by kernel_rfl) ?_
    refine wpS_does0 (i := 0) (d := some 20) (rem := [_, _, _]) (out := [_, _, _]) rfl (by rfl) rfl Try.call8 (bawake_d)  HM13.out [] rfl covS_nil rfl rfl ?_
    rintro W15 hm14 -
    have HM16 := Lib.hid hm14
    clear hm14
    simp only [Act.put, List.setIfInBounds_toArray, List.set_cons_succ, List.set_cons_zero]
    refine wpS_this [1] rfl (by kernel_rfl) (by simp only [pickL, nthL, List.cons_append, List.nil_append]; rfl) ?_
    repeat (go_big_quiet_step (fail))
    refine wpQuiet_nil ?_
    refine wpS_nil ?_
    refine then_normal ?_
    refine wp_ret ?_
    refine then_ret ?_
    refine bodyPost_ret (results_tmp rfl _ _ _) rfl ?_
    exact does_ret (Mem.only (M := [_]) HM16.out [1] rfl) rfl rfl
  · have gz := decide_eq_false h1
    replace h1 := Lib.hid h1
    refine wp_region_N [(0, 1), (1, 3), (2, 3), (3, 1)] (by kernel_rfl) ?_
    refine wpS_loadA (i := 0) (d := some 16) (cells := bgC (a.k) (.slice pa a.v.length ca)) rfl (by rfl) rfl rfl (HM4.out.part 0 rfl (bgC_all)) Try.underlying27 rfl (by kernel_rfl) rfl ?_
    simp only [Act.put, List.setIfInBounds_toArray, List.set_cons_succ, List.set_cons_zero]
    refine wpS_build1 elemB (i := 1) (dd := 17) (y := ⟨a.k, pa, a.v.length, ca⟩) rfl (by rfl) rfl rfl rfl (by decide) HM4.out covS_nil rfl ?_
    rintro b19 W20 hm21 -
    have HM22 := Lib.hid hm21
    clear hm21
    simp only [Act.put, List.setIfInBounds_toArray, List.set_cons_succ, List.set_cons_zero]
    refine wpS_does1 (i := 2) (d := some 18) (rem := [_]) (out := [_, _, _]) rfl (by rfl) rfl Try.call15 (Does.ofList (bheavy_d (listT [_, _]) _ ⟨a.k, pa, a.v.length, ca⟩ a.v (rL 0 rfl vRow) (rL 1 rfl (rOld ha)) rfl la)) rfl HM22.out [0, 1] rfl covS_nil rfl rfl ?_
    rintro W24 hm23 -
    rw [hz.out]
    have HM25 := Lib.hid hm23
    clear hm23
    simp only [Act.put, List.setIfInBounds_toArray, List.set_cons_succ, List.set_cons_zero]
    refine wpS_this [3] rfl (by kernel_rfl) (by simp only [pickL, nthL, List.cons_append, List.nil_append]; rfl) ?_
    repeat (go_big_quiet_step (fail))
    refine wpQuiet_nil ?_
    refine wpS_nil ?_
    refine then_normal ?_
    refine wp_cond_false rfl ?_
    refine wp_skip ?_
    refine then_normal ?_
    refine wp_seq ?_
    obtain ⟨T, hT'⟩ : ∃ l, textsL a.v [] = l := ⟨_, rfl⟩
    have hnd : Hid T.Nodup := Lib.hid (by rw [← hT']; exact textsL_nodup List.nodup_nil)
    have hTl0 : T.length ≤ a.v.length := by rw [← hT']; have := textsL_len a.v []; simpa using this
    have hTl := Lib.hid hTl0
    have hT := Lib.hid hT'
    clear hT'
    refine wp_region_N [(0, 1), (1, 3), (2, 1)] (by kernel_rfl) ?_
    refine wpS_loadA (i := 0) (d := some 21) (cells := bgC (a.k) (.slice pa a.v.length ca)) rfl (by rfl) rfl rfl (HM25.out.part 2 rfl (bgC_all)) Try.underlying27 rfl (by kernel_rfl) rfl ?_
    simp only [Act.put, List.setIfInBounds_toArray, List.set_cons_succ, List.set_cons_zero]
    refine wpS_doesU1 (i := 1) (d := some 22) (rem := [_, _]) rfl (by rfl) rfl Try.call19 (btexts_d (oldT W0) _ a (vOld ha) la T hT.out) rfl HM25.out [1] rfl covS_nil (fun _ => rfl) rfl ?_
    rintro u28 W27 hm26 -
    obtain ⟨pt, ct, rfl, hm26q⟩ := Mem.texts rfl hm26
    clear hm26
    have HM29 := Lib.hid hm26q
    clear hm26q
    simp only [Act.put, List.setIfInBounds_toArray, List.set_cons_succ, List.set_cons_zero]
    refine wpS_this [2] rfl (by kernel_rfl) (by simp only [pickL, nthL, List.cons_append, List.nil_append]; rfl) ?_
    repeat (go_big_quiet_step (fail))
    refine wpQuiet_nil ?_
    refine wpS_nil ?_
    refine then_normal ?_
    refine wp_seq ?_
    refine wp_seq ?_
    have hTc : Hid (T.length ≤ ct) := Lib.hid (by obtain ⟨_, _, _, e1, e2, _⟩ := Mem.src HM29.out 0 rfl rowT_reads; simp only [Value.slice.injEq] at e1; omega)
    refine wp_region_N [(0, 1), (1, 1), (2, 1)] (by kernel_rfl) ?_
    refine wpS_this [0, 1, 2] rfl (by kernel_rfl) (by simp only [pickL, nthL, List.cons_append, List.nil_append]; rfl) ?_
    repeat (go_big_quiet_step (fail))
    refine wpQuiet_nil ?_
    refine wpS_nil ?_
    refine then_normal ?_
    refine wp_block ?_
    refine wp_loop_F [2, 4, 5, 7, 8, 10, 25, 26, 27, 28, 29, 30, 31, 32, 33, 34, 35, 36, 37, 38, 39, 40, 41, 42, 43, 44, 45, 46, 47, 48, 49, 50, 51, 52, 53, 54, 55, 56, 57, 58, 59] (fun n vs W' => ∃ (k : Nat), n = T.length - k ∧ vs 25 = .int .i64 (k : Int) ∧ k ≤ T.length ∧ Mem [rowT elemS (.slice pt T.length ct) T, boxT b3 (.cells (bgC a.k (.slice pa a.v.length ca)).toArray 27 (0, 0)), oldT W0] H w W') (n0 := T.length) ?_ ?_
    · exact ⟨0, rfl, rfl, Nat.zero_le _, (Mem.only (M := [_, _, _]) HM29.out [0, 2, 0] rfl)⟩
    rintro n vs W' ⟨k, rfl, e25, hk, hm1⟩
    simp only [putAll, List.map_cons, List.map_nil, Act.put, List.setIfInBounds_toArray, List.set_cons_succ, List.set_cons_zero]
    rw [e25]
    clear e25
    have HM30 := Lib.hid hm1
    clear hm1
    refine wp_seq ?_
    refine wp_region_N [(0, 1)] (by kernel_rfl) ?_
    refine wpS_this [0] rfl (by kernel_rfl) (by simp only [pickL, nthL, List.cons_append, List.nil_append]; rfl) ?_
    repeat (go_big_quiet_step (fail))
    refine wpQuiet_nil ?_
    refine wpS_nil ?_
    refine then_normal ?_
    refine wp_seq ?_
    refine wp_cond_split rfl (fun h31 => ?_) (fun h31 => ?_)
    · have hk1 : k + 1 ≤ T.length := by have : (k : Int) < ((T.length : Nat) : Int) := (by simpa using h31); omega
      clear h31
      obtain ⟨y, hy'⟩ : ∃ y, T[k]? = some y := ⟨_, List.getElem?_eq_getElem (hk1)⟩
      have hy := Lib.hid hy'
      clear hy'
      refine wp_skip ?_
      refine then_normal ?_
      refine wp_seq ?_
      refine wp_block ?_
      refine wp_seq ?_
      refine wp_region_N [(0, 1), (1, 1), (2, 1), (3, 1), (4, 1)] (by kernel_rfl) ?_
      refine wpS_this [0] rfl (by kernel_rfl) (by simp only [pickL, nthL, List.cons_append, List.nil_append]; rfl) ?_
      repeat (go_big_quiet_step (fail))
      refine wpQuiet_nil ?_
      refine wpS_index (E := elemS) (i := 1) (d := some 28) rfl (by rfl) rfl rfl rfl (HM30.out.row 0 rfl vRow) (hy.out) rfl ?_
      intro eb32 eo33 hc34
      simp only [Act.put, List.setIfInBounds_toArray, List.set_cons_succ, List.set_cons_zero]
      refine wpS_load1 (i := 2) (d := some 29) (u := .string y) rfl (by rfl) rfl rfl (hc34 0 _ rfl) Try.underlying9 rfl rfl ?_
      simp only [Act.put, List.setIfInBounds_toArray, List.set_cons_succ, List.set_cons_zero]
      refine wpS_this [3, 4] rfl (by kernel_rfl) (by simp only [pickL, nthL, List.cons_append, List.nil_append]; rfl) ?_
      repeat (go_big_quiet_step (fail))
      refine wpQuiet_nil ?_
      refine wpS_nil ?_
      refine then_normal ?_
      refine wp_seq ?_
      refine wp_seq ?_
      refine wp_region_N [(0, 1), (1, 1), (2, 1), (3, 1), (4, 1)] (by kernel_rfl) ?_
      refine wpS_this [0, 1] rfl (by kernel_rfl) (by simp only [pickL, nthL, List.cons_append, List.nil_append]; rfl) ?_
      repeat (go_big_quiet_step (fail))
      refine wpQuiet_nil ?_
      refine wpS_read (i := 2) (d := some 32) rfl (by rfl) (run_headS (by have := hTc.out; omega) rfl rfl rfl) rfl ?_
      simp only [Act.put, List.setIfInBounds_toArray, List.set_cons_succ, List.set_cons_zero]
      refine wpS_this [3, 4] rfl (by kernel_rfl) (by simp only [pickL, nthL, List.cons_append, List.nil_append]; rfl) ?_
      repeat (go_big_quiet_step (fail))
      refine wpQuiet_nil ?_
      refine wpS_nil ?_
      refine then_normal ?_
      refine wp_block ?_
      refine wp_loop_F [2, 7, 34, 35, 36, 37, 38, 39, 40, 41] (fun n ws W' => ∃ (i : Nat), n = k - i ∧ ws 34 = .int .i64 (i : Int) ∧ i ≤ k ∧ Mem [rowT elemS (.slice pt T.length ct) T, boxT b3 (.cells (bgC a.k (.slice pa a.v.length ca)).toArray 27 (0, 0)), oldT W0] H w W') (n0 := k) ?_ ?_
      · exact ⟨0, rfl, rfl, Nat.zero_le _, (Mem.only (M := [_, _, _]) HM30.out [0, 0, 0] rfl)⟩
      rintro n ws W' ⟨i, rfl, e34, hi, hm2⟩
      simp only [putAll, List.map_cons, List.map_nil, Act.put, List.setIfInBounds_toArray, List.set_cons_succ, List.set_cons_zero]
      rw [e34]
      clear e34
      have HM35 := Lib.hid hm2
      clear hm2
      refine wp_seq ?_
      refine wp_region_N [(0, 1)] (by kernel_rfl) ?_
      refine wpS_this [0] rfl (by kernel_rfl) (by simp only [pickL, nthL, List.cons_append, List.nil_append]; rfl) ?_
      repeat (go_big_quiet_step (fail))
      refine wpQuiet_nil ?_
      refine wpS_nil ?_
      refine then_normal ?_
      refine wp_seq ?_
      refine wp_cond_split rfl (fun h36 => ?_) (fun h36 => ?_)
      · have hi1 : i + 1 ≤ k := by have : (i : Int) < ((k : Nat) : Int) := (by simpa using h36); omega
        clear h36
        obtain ⟨t, ht'⟩ : ∃ y, (T.take k)[i]? = some y := ⟨_, List.getElem?_eq_getElem (by rw [List.length_take]; omega)⟩
        have ht := Lib.hid ht'
        clear ht'
        refine wp_skip ?_
        refine then_normal ?_
        refine wp_seq ?_
        refine wp_block ?_
        refine wp_seq ?_
        refine wp_region_N [(0, 1), (1, 1), (2, 1)] (by kernel_rfl) ?_
        refine wpS_index (E := elemS) (i := 0) (d := some 36) rfl (by rfl) rfl rfl rfl (rowAt_take (HM35.out.row 0 rfl vRow) rfl (by omega)) (ht.out) rfl ?_
        intro eb37 eo38 hc39
        simp only [Act.put, List.setIfInBounds_toArray, List.set_cons_succ, List.set_cons_zero]
        refine wpS_load1 (i := 1) (d := some 37) (u := .string t) rfl (by rfl) rfl rfl (hc39 0 _ rfl) Try.underlying9 rfl rfl ?_
        simp only [Act.put, List.setIfInBounds_toArray, List.set_cons_succ, List.set_cons_zero]
        refine wpS_this [2] rfl (by kernel_rfl) (by simp only [pickL, nthL, List.cons_append, List.nil_append]; rfl) ?_
        repeat (go_big_quiet_step (fail))
        refine wpQuiet_nil ?_
        refine wpS_nil ?_
        refine then_normal ?_
        refine wp_seq ?_
        skip
        · obtain ⟨g1, g2⟩ := bytes_ne (nodup_ne hnd.out hy.out ht.out)
          refine wp_region_N [(0, 1), (1, 1), (2, 1)] (by kernel_rfl) ?_
          refine wpS_this [0, 1, 2] rfl (by kernel_rfl) (by simp only [pickL, nthL, List.cons_append, List.nil_append]; rfl) ?_
          repeat (go_big_quiet_step (fail))
          refine wpQuiet_nil ?_
          refine wpS_nil ?_
          refine then_normal ?_
          refine wp_cond_false rfl ?_
          refine wp_skip ?_
          refine block_normal ?_
          refine then_normal ?_
          refine wp_region_N [(0, 1), (1, 1)] (by kernel_rfl) ?_
          refine wpS_this [0, 1] rfl (by kernel_rfl) (by simp only [pickL, nthL, List.cons_append, List.nil_append]; rfl) ?_
          repeat (go_big_quiet_step (fail))
          refine wpQuiet_nil ?_
          refine wpS_nil ?_
          refine then_normal ?_
          refine ⟨by kernel_rfl, ?_⟩
          refine ⟨k - (i + 1), by omega, i + 1, rfl, rfl, hi1, (Mem.only (M := [_, _, _]) HM35.out [0, 0, 0] rfl)⟩
      · clear h36
        refine wp_exit ?_
        refine then_exit (then_exit (block_exit ?_))
        refine then_normal ?_
        refine wp_seq ?_
        refine wp_region_N [(0, 1)] (by kernel_rfl) ?_
        refine wpS_this [0] rfl (by kernel_rfl) (by simp only [pickL, nthL, List.cons_append, List.nil_append]; rfl) ?_
        repeat (go_big_quiet_step (fail))
        refine wpQuiet_nil ?_
        refine wpS_nil ?_
        refine then_normal ?_
        refine wp_seq ?_
        refine wp_seq ?_
        refine wp_region_N [(0, 1), (1, 1), (2, 1), (3, 1)] (by kernel_rfl) ?_
        refine wpS_this [0] rfl (by kernel_rfl) (by simp only [pickL, nthL, List.cons_append, List.nil_append]; rfl) ?_
        repeat (go_big_quiet_step (fail))
        refine wpQuiet_nil ?_
        refine wpS_load1 (i := 1) (d := some 43) (u := .slice pa a.v.length ca) rfl (by rfl) rfl rfl (HM35.out.part1 1 rfl bgC_sl) Try.underlying25 rfl rfl ?_
        simp only [Act.put, List.setIfInBounds_toArray, List.set_cons_succ, List.set_cons_zero]
        refine wpS_this [2, 3] rfl (by kernel_rfl) (by simp only [pickL, nthL, List.cons_append, List.nil_append]; rfl) ?_
        repeat (go_big_quiet_step (fail))
        refine wpQuiet_nil ?_
        refine wpS_nil ?_
        refine then_normal ?_
        refine wp_block ?_
        refine wp_loop_F [8, 10, 45, 46, 47, 48, 49, 50, 51, 52, 53, 54, 55, 56] (fun n ts W' => ∃ (j : Nat), n = a.v.length - j ∧ ts 45 = .int .i64 (j : Int) ∧ ts 8 = .bool (heldD (a.v.take j) y) ∧ j ≤ a.v.length ∧ Mem [rowT elemS (.slice pt T.length ct) T, boxT b3 (.cells (bgC a.k (.slice pa a.v.length ca)).toArray 27 (0, 0)), oldT W0] H w W') (n0 := a.v.length) ?_ ?_
        · exact ⟨0, rfl, rfl, rfl, Nat.zero_le _, (Mem.only (M := [_, _, _]) HM35.out [0, 0, 0] rfl)⟩
        rintro n ts W' ⟨j, rfl, e45, e8, hj, hm3⟩
        simp only [putAll, List.map_cons, List.map_nil, Act.put, List.setIfInBounds_toArray, List.set_cons_succ, List.set_cons_zero]
        rw [e45, e8]
        clear e45 e8
        obtain ⟨c, hc'⟩ := bool_letter (heldD (a.v.take j) y)
        rw [hc']
        have hc := Lib.hid hc'
        clear hc'
        have HM40 := Lib.hid hm3
        clear hm3
        refine wp_seq ?_
        refine wp_region_N [(0, 1)] (by kernel_rfl) ?_
        refine wpS_this [0] rfl (by kernel_rfl) (by simp only [pickL, nthL, List.cons_append, List.nil_append]; rfl) ?_
        repeat (go_big_quiet_step (fail))
        refine wpQuiet_nil ?_
        refine wpS_nil ?_
        refine then_normal ?_
        refine wp_seq ?_
        refine wp_cond_split rfl (fun h41 => ?_) (fun h41 => ?_)
        · have hj1 : j + 1 ≤ a.v.length := by have : (j : Int) < ((a.v.length : Nat) : Int) := (by simpa using h41); omega
          clear h41
          obtain ⟨x, hx'⟩ : ∃ y, a.v[j]? = some y := ⟨_, List.getElem?_eq_getElem (hj1)⟩
          have hx := Lib.hid hx'
          clear hx'
          refine wp_skip ?_
          refine then_normal ?_
          refine wp_seq ?_
          refine wp_block ?_
          refine wp_seq ?_
          refine wp_region_N [(0, 1), (1, 1), (2, 3), (3, 3)] (by kernel_rfl) ?_
          refine wpS_index (E := elemV) (i := 0) (d := some 47) rfl (by rfl) rfl rfl rfl (HM40.out.row 2 rfl (rOld ha)) (hx.out) rfl ?_
          intro eb42 eo43 hc44
          simp only [Act.put, List.setIfInBounds_toArray, List.set_cons_succ, List.set_cons_zero]
          refine wpS_loadA (i := 1) (d := some 48) (cells := [.int .i64 x.1.1, .int .i64 x.1.2, .string x.2]) rfl (by rfl) rfl rfl hc44 Try.underlying41 rfl (by kernel_rfl) rfl ?_
          simp only [Act.put, List.setIfInBounds_toArray, List.set_cons_succ, List.set_cons_zero]
          refine wpS_alloc (i := 2) (dd := 10) (z := .agg #[.int .i64 0, .int .i64 0, .string ByteArray.empty]) (cs := #[.int .i64 0, .int .i64 0, .string ByteArray.empty]) rfl (by rfl) rfl (by kernel_rfl) rfl HM40.out covS_nil rfl ?_
          rintro b47 W46 hm45 -
          have HM48 := Lib.hid hm45
          clear hm45
          simp only [Act.put, List.setIfInBounds_toArray, List.set_cons_succ, List.set_cons_zero]
          refine wpS_storeA (i := 3) (L2 := [_, _, _]) (cs' := [.int .i64 x.1.1, .int .i64 x.1.2, .string x.2]) rfl (by rfl) rfl rfl rfl (by kernel_rfl) (by rfl) HM48.out 0 rfl rfl rfl rfl covS_nil rfl ?_
          rintro W50 hm49 -
          have HM51 := Lib.hid hm49
          clear hm49
          refine wpS_nil ?_
          refine then_normal ?_
          rcases (show c = true ∨ (c = false ∧ x.2 = y) ∨ (c = false ∧ x.2 ≠ y) from by cases c <;> by_cases h0 : x.2 = y <;> simp [h0]) with rfl | ⟨rfl, he⟩ | ⟨rfl, he⟩
          · refine wp_region_N [(0, 1), (1, 1), (2, 1), (3, 1), (4, 1), (5, 1), (6, 1), (7, 1)] (by kernel_rfl) ?_
            have Cb10 := Mem.cell HM51.out 0 rfl
            refine wpS_this [0, 1, 2, 3, 4, 5, 6, 7] rfl (by kernel_rfl) (by simp only [pickL, nthL, List.cons_append, List.nil_append]; rfl) ?_
            repeat (go_big_quiet_step (fail))
            refine wpQuiet_nil ?_
            clear Cb10
            refine wpS_nil ?_
            refine block_normal ?_
            refine then_normal ?_
            refine wp_region_N [(0, 1), (1, 1)] (by kernel_rfl) ?_
            refine wpS_this [0, 1] rfl (by kernel_rfl) (by simp only [pickL, nthL, List.cons_append, List.nil_append]; rfl) ?_
            repeat (go_big_quiet_step (fail))
            refine wpQuiet_nil ?_
            refine wpS_nil ?_
            refine then_normal ?_
            refine ⟨by kernel_rfl, ?_⟩
            refine ⟨a.v.length - (j + 1), by omega, j + 1, rfl, rfl, ?_, hj1, (Mem.only (M := [_, _, _]) HM51.out [1, 1, 1] rfl)⟩
            rw [heldD_step hx.out y, hc.out]
            rfl
          · obtain ⟨g1, g2⟩ := bytes_eq he
            replace he := Lib.hid he
            refine wp_region_N [(0, 1), (1, 1), (2, 1), (3, 1), (4, 1), (5, 1), (6, 1), (7, 1)] (by kernel_rfl) ?_
            have Cb10 := Mem.cell HM51.out 0 rfl
            refine wpS_this [0, 1, 2, 3, 4, 5, 6, 7] rfl (by kernel_rfl) (by simp only [pickL, nthL, List.cons_append, List.nil_append]; rfl) ?_
            repeat (go_big_quiet_step (fail))
            refine wpQuiet_nil ?_
            clear Cb10
            refine wpS_nil ?_
            refine block_normal ?_
            refine then_normal ?_
            refine wp_region_N [(0, 1), (1, 1)] (by kernel_rfl) ?_
            refine wpS_this [0, 1] rfl (by kernel_rfl) (by simp only [pickL, nthL, List.cons_append, List.nil_append]; rfl) ?_
            repeat (go_big_quiet_step (fail))
            refine wpQuiet_nil ?_
            refine wpS_nil ?_
            refine then_normal ?_
            refine ⟨by kernel_rfl, ?_⟩
            refine ⟨a.v.length - (j + 1), by omega, j + 1, rfl, rfl, ?_, hj1, (Mem.only (M := [_, _, _]) HM51.out [1, 1, 1] rfl)⟩
            rw [heldD_step hx.out y, hc.out]
            rw [decide_eq_true he.out]
            rfl
          · obtain ⟨g1, g2⟩ := bytes_ne he
            replace he := Lib.hid he
            refine wp_region_N [(0, 1), (1, 1), (2, 1), (3, 1), (4, 1), (5, 1), (6, 1), (7, 1)] (by kernel_rfl) ?_
            have Cb10 := Mem.cell HM51.out 0 rfl
            refine wpS_this [0, 1, 2, 3, 4, 5, 6, 7] rfl (by kernel_rfl) (by simp only [pickL, nthL, List.cons_append, List.nil_append]; rfl) ?_
            repeat (go_big_quiet_step (fail))
            refine wpQuiet_nil ?_
            clear Cb10
            refine wpS_nil ?_
            refine block_normal ?_
            refine then_normal ?_
            refine wp_region_N [(0, 1), (1, 1)] (by kernel_rfl) ?_
            refine wpS_this [0, 1] rfl (by kernel_rfl) (by simp only [pickL, nthL, List.cons_append, List.nil_append]; rfl) ?_
            repeat (go_big_quiet_step (fail))
            refine wpQuiet_nil ?_
            refine wpS_nil ?_
            refine then_normal ?_
            refine ⟨by kernel_rfl, ?_⟩
            refine ⟨a.v.length - (j + 1), by omega, j + 1, rfl, rfl, ?_, hj1, (Mem.only (M := [_, _, _]) HM51.out [1, 1, 1] rfl)⟩
            rw [heldD_step hx.out y, hc.out]
            rw [decide_eq_false he.out]
            rfl
        · have hge3 : Hid (a.v.length ≤ j) := Lib.hid (by have : ¬ (j : Int) < ((a.v.length : Nat) : Int) := (by simpa using h41); omega)
          clear h41
          refine wp_exit ?_
          refine then_exit (then_exit (block_exit ?_))
          refine then_normal ?_
          refine wp_seq ?_
          skip
          · have hct : c = true := by rw [← hc.out, List.take_of_length_le hge3.out]; exact texts_held hT.out hy.out
            subst hct
            refine wp_region_N [(0, 1), (1, 1)] (by kernel_rfl) ?_
            refine wpS_this [0, 1] rfl (by kernel_rfl) (by simp only [pickL, nthL, List.cons_append, List.nil_append]; rfl) ?_
            repeat (go_big_quiet_step (fail))
            refine wpQuiet_nil ?_
            refine wpS_nil ?_
            refine then_normal ?_
            refine wp_cond_false rfl ?_
            refine wp_skip ?_
            refine block_normal ?_
            refine then_normal ?_
            refine wp_region_N [(0, 1), (1, 1)] (by kernel_rfl) ?_
            refine wpS_this [0, 1] rfl (by kernel_rfl) (by simp only [pickL, nthL, List.cons_append, List.nil_append]; rfl) ?_
            repeat (go_big_quiet_step (fail))
            refine wpQuiet_nil ?_
            refine wpS_nil ?_
            refine then_normal ?_
            refine ⟨by kernel_rfl, ?_⟩
            refine ⟨T.length - (k + 1), by omega, k + 1, rfl, rfl, hk1, (Mem.only (M := [_, _, _]) HM40.out [0, 0, 0] rfl)⟩
    · clear h31
      refine wp_exit ?_
      refine then_exit (then_exit (block_exit ?_))
      refine then_normal ?_
      refine wp_seq ?_
      refine wp_seq ?_
      refine wp_region_N [(0, 1), (1, 1), (2, 1), (3, 1)] (by kernel_rfl) ?_
      refine wpS_this [0] rfl (by kernel_rfl) (by simp only [pickL, nthL, List.cons_append, List.nil_append]; rfl) ?_
      repeat (go_big_quiet_step (fail))
      refine wpQuiet_nil ?_
      refine wpS_load1 (i := 1) (d := some 61) (u := .slice pa a.v.length ca) rfl (by rfl) rfl rfl (HM30.out.part1 1 rfl bgC_sl) Try.underlying25 rfl rfl ?_
      simp only [Act.put, List.setIfInBounds_toArray, List.set_cons_succ, List.set_cons_zero]
      refine wpS_this [2, 3] rfl (by kernel_rfl) (by simp only [pickL, nthL, List.cons_append, List.nil_append]; rfl) ?_
      repeat (go_big_quiet_step (fail))
      refine wpQuiet_nil ?_
      refine wpS_nil ?_
      refine then_normal ?_
      refine wp_block ?_
      refine wp_loop_F [2, 12, 13, 15, 63, 64, 65, 66, 67, 68, 69, 70, 71, 72, 73, 74, 75, 76, 77, 78, 79, 80, 81, 82, 83] (fun n us W' => ∃ (q : Nat), n = a.v.length - q ∧ us 63 = .int .i64 (q : Int) ∧ q ≤ a.v.length ∧ Mem [rowT elemS (.slice pt T.length ct) T, boxT b3 (.cells (bgC a.k (.slice pa a.v.length ca)).toArray 27 (0, 0)), oldT W0] H w W') (n0 := a.v.length) ?_ ?_
      · exact ⟨0, rfl, rfl, Nat.zero_le _, (Mem.only (M := [_, _, _]) HM30.out [0, 0, 0] rfl)⟩
      rintro n us W' ⟨q, rfl, e63, hq, hm4⟩
      simp only [putAll, List.map_cons, List.map_nil, Act.put, List.setIfInBounds_toArray, List.set_cons_succ, List.set_cons_zero]
      rw [e63]
      clear e63
      have HM52 := Lib.hid hm4
      clear hm4
      refine wp_seq ?_
      refine wp_region_N [(0, 1)] (by kernel_rfl) ?_
      refine wpS_this [0] rfl (by kernel_rfl) (by simp only [pickL, nthL, List.cons_append, List.nil_append]; rfl) ?_
      repeat (go_big_quiet_step (fail))
      refine wpQuiet_nil ?_
      refine wpS_nil ?_
      refine then_normal ?_
      refine wp_seq ?_
      refine wp_cond_split rfl (fun h53 => ?_) (fun h53 => ?_)
      · have hq1 : q + 1 ≤ a.v.length := by have : (q : Int) < ((a.v.length : Nat) : Int) := (by simpa using h53); omega
        clear h53
        obtain ⟨x, hx'⟩ : ∃ y, a.v[q]? = some y := ⟨_, List.getElem?_eq_getElem (hq1)⟩
        have hx := Lib.hid hx'
        clear hx'
        refine wp_skip ?_
        refine then_normal ?_
        refine wp_seq ?_
        refine wp_block ?_
        refine wp_seq ?_
        refine wp_region_N [(0, 1), (1, 1), (2, 3), (3, 3)] (by kernel_rfl) ?_
        refine wpS_index (E := elemV) (i := 0) (d := some 65) rfl (by rfl) rfl rfl rfl (HM52.out.row 2 rfl (rOld ha)) (hx.out) rfl ?_
        intro eb54 eo55 hc56
        simp only [Act.put, List.setIfInBounds_toArray, List.set_cons_succ, List.set_cons_zero]
        refine wpS_loadA (i := 1) (d := some 66) (cells := [.int .i64 x.1.1, .int .i64 x.1.2, .string x.2]) rfl (by rfl) rfl rfl hc56 Try.underlying41 rfl (by kernel_rfl) rfl ?_
        simp only [Act.put, List.setIfInBounds_toArray, List.set_cons_succ, List.set_cons_zero]
        refine wpS_alloc (i := 2) (dd := 12) (z := .agg #[.int .i64 0, .int .i64 0, .string ByteArray.empty]) (cs := #[.int .i64 0, .int .i64 0, .string ByteArray.empty]) rfl (by rfl) rfl (by kernel_rfl) rfl HM52.out covS_nil rfl ?_
        rintro b59 W58 hm57 -
        have HM60 := Lib.hid hm57
        clear hm57
        simp only [Act.put, List.setIfInBounds_toArray, List.set_cons_succ, List.set_cons_zero]
        refine wpS_storeA (i := 3) (L2 := [_, _, _]) (cs' := [.int .i64 x.1.1, .int .i64 x.1.2, .string x.2]) rfl (by rfl) rfl rfl rfl (by kernel_rfl) (by rfl) HM60.out 0 rfl rfl rfl rfl covS_nil rfl ?_
        rintro W62 hm61 -
        have HM63 := Lib.hid hm61
        clear hm61
        refine wpS_nil ?_
        refine then_normal ?_
        refine wp_seq ?_
        refine wp_region_N [(0, 1)] (by kernel_rfl) ?_
        refine wpS_this [0] rfl (by kernel_rfl) (by simp only [pickL, nthL, List.cons_append, List.nil_append]; rfl) ?_
        repeat (go_big_quiet_step (fail))
        refine wpQuiet_nil ?_
        refine wpS_nil ?_
        refine then_normal ?_
        refine wp_seq ?_
        refine wp_seq ?_
        refine wp_region_N [(0, 1), (1, 1), (2, 1)] (by kernel_rfl) ?_
        refine wpS_this [0, 1, 2] rfl (by kernel_rfl) (by simp only [pickL, nthL, List.cons_append, List.nil_append]; rfl) ?_
        repeat (go_big_quiet_step (fail))
        refine wpQuiet_nil ?_
        refine wpS_nil ?_
        refine then_normal ?_
        refine wp_block ?_
        refine wp_loop_F [13, 15, 69, 70, 71, 72, 73, 74, 75, 76, 77, 78, 79, 80] (fun n xs W' => ∃ (r : Nat), n = T.length - r ∧ xs 69 = .int .i64 (r : Int) ∧ xs 13 = .bool (heldT (T.take r) x.2) ∧ r ≤ T.length ∧ Mem [boxT b59 (.cells #[.int .i64 x.1.1, .int .i64 x.1.2, .string x.2] 41 (0, 0)), rowT elemS (.slice pt T.length ct) T, boxT b3 (.cells (bgC a.k (.slice pa a.v.length ca)).toArray 27 (0, 0)), oldT W0] H w W') (n0 := T.length) ?_ ?_
        · exact ⟨0, rfl, rfl, rfl, Nat.zero_le _, (Mem.only (M := [_, _, _, _]) HM63.out [0, 0, 0, 0] rfl)⟩
        rintro n xs W' ⟨r, rfl, e69, e13, hr, hm5⟩
        simp only [putAll, List.map_cons, List.map_nil, Act.put, List.setIfInBounds_toArray, List.set_cons_succ, List.set_cons_zero]
        rw [e69, e13]
        clear e69 e13
        obtain ⟨c, hc'⟩ := bool_letter (heldT (T.take r) x.2)
        rw [hc']
        have hc := Lib.hid hc'
        clear hc'
        have HM64 := Lib.hid hm5
        clear hm5
        refine wp_seq ?_
        refine wp_region_N [(0, 1)] (by kernel_rfl) ?_
        refine wpS_this [0] rfl (by kernel_rfl) (by simp only [pickL, nthL, List.cons_append, List.nil_append]; rfl) ?_
        repeat (go_big_quiet_step (fail))
        refine wpQuiet_nil ?_
        refine wpS_nil ?_
        refine then_normal ?_
        refine wp_seq ?_
        refine wp_cond_split rfl (fun h65 => ?_) (fun h65 => ?_)
        · have hr1 : r + 1 ≤ T.length := by have : (r : Int) < ((T.length : Nat) : Int) := (by simpa using h65); omega
          clear h65
          obtain ⟨t, ht'⟩ : ∃ y, T[r]? = some y := ⟨_, List.getElem?_eq_getElem (hr1)⟩
          have ht := Lib.hid ht'
          clear ht'
          refine wp_skip ?_
          refine then_normal ?_
          refine wp_seq ?_
          refine wp_block ?_
          refine wp_seq ?_
          refine wp_region_N [(0, 1), (1, 1), (2, 1)] (by kernel_rfl) ?_
          refine wpS_index (E := elemS) (i := 0) (d := some 71) rfl (by rfl) rfl rfl rfl (HM64.out.row 1 rfl vRow) (ht.out) rfl ?_
          intro eb66 eo67 hc68
          simp only [Act.put, List.setIfInBounds_toArray, List.set_cons_succ, List.set_cons_zero]
          refine wpS_load1 (i := 1) (d := some 72) (u := .string t) rfl (by rfl) rfl rfl (hc68 0 _ rfl) Try.underlying9 rfl rfl ?_
          simp only [Act.put, List.setIfInBounds_toArray, List.set_cons_succ, List.set_cons_zero]
          refine wpS_this [2] rfl (by kernel_rfl) (by simp only [pickL, nthL, List.cons_append, List.nil_append]; rfl) ?_
          repeat (go_big_quiet_step (fail))
          refine wpQuiet_nil ?_
          refine wpS_nil ?_
          refine then_normal ?_
          rcases (show c = true ∨ (c = false ∧ t = x.2) ∨ (c = false ∧ t ≠ x.2) from by cases c <;> by_cases h0 : t = x.2 <;> simp [h0]) with rfl | ⟨rfl, he⟩ | ⟨rfl, he⟩
          · refine wp_region_N [(0, 1), (1, 1), (2, 1), (3, 1), (4, 1), (5, 1), (6, 1), (7, 1)] (by kernel_rfl) ?_
            have Cb12 := Mem.cell HM64.out 0 rfl
            refine wpS_this [0, 1, 2, 3, 4, 5, 6, 7] rfl (by kernel_rfl) (by simp only [pickL, nthL, List.cons_append, List.nil_append]; rfl) ?_
            repeat (go_big_quiet_step (fail))
            refine wpQuiet_nil ?_
            clear Cb12
            refine wpS_nil ?_
            refine block_normal ?_
            refine then_normal ?_
            refine wp_region_N [(0, 1), (1, 1)] (by kernel_rfl) ?_
            refine wpS_this [0, 1] rfl (by kernel_rfl) (by simp only [pickL, nthL, List.cons_append, List.nil_append]; rfl) ?_
            repeat (go_big_quiet_step (fail))
            refine wpQuiet_nil ?_
            refine wpS_nil ?_
            refine then_normal ?_
            refine ⟨by kernel_rfl, ?_⟩
            refine ⟨T.length - (r + 1), by omega, r + 1, rfl, rfl, ?_, hr1, (Mem.only (M := [_, _, _, _]) HM64.out [0, 0, 0, 0] rfl)⟩
            rw [heldT_step ht.out x.2, hc.out]
            rfl
          · obtain ⟨g1, g2⟩ := bytes_eq he
            replace he := Lib.hid he
            refine wp_region_N [(0, 1), (1, 1), (2, 1), (3, 1), (4, 1), (5, 1), (6, 1), (7, 1)] (by kernel_rfl) ?_
            have Cb12 := Mem.cell HM64.out 0 rfl
            refine wpS_this [0, 1, 2, 3, 4, 5, 6, 7] rfl (by kernel_rfl) (by simp only [pickL, nthL, List.cons_append, List.nil_append]; rfl) ?_
            repeat (go_big_quiet_step (fail))
            refine wpQuiet_nil ?_
            clear Cb12
            refine wpS_nil ?_
            refine block_normal ?_
            refine then_normal ?_
            refine wp_region_N [(0, 1), (1, 1)] (by kernel_rfl) ?_
            refine wpS_this [0, 1] rfl (by kernel_rfl) (by simp only [pickL, nthL, List.cons_append, List.nil_append]; rfl) ?_
            repeat (go_big_quiet_step (fail))
            refine wpQuiet_nil ?_
            refine wpS_nil ?_
            refine then_normal ?_
            refine ⟨by kernel_rfl, ?_⟩
            refine ⟨T.length - (r + 1), by omega, r + 1, rfl, rfl, ?_, hr1, (Mem.only (M := [_, _, _, _]) HM64.out [0, 0, 0, 0] rfl)⟩
            rw [heldT_step ht.out x.2, hc.out]
            rw [decide_eq_true he.out]
            rfl
          · obtain ⟨g1, g2⟩ := bytes_ne he
            replace he := Lib.hid he
            refine wp_region_N [(0, 1), (1, 1), (2, 1), (3, 1), (4, 1), (5, 1), (6, 1), (7, 1)] (by kernel_rfl) ?_
            have Cb12 := Mem.cell HM64.out 0 rfl
            refine wpS_this [0, 1, 2, 3, 4, 5, 6, 7] rfl (by kernel_rfl) (by simp only [pickL, nthL, List.cons_append, List.nil_append]; rfl) ?_
            repeat (go_big_quiet_step (fail))
            refine wpQuiet_nil ?_
            clear Cb12
            refine wpS_nil ?_
            refine block_normal ?_
            refine then_normal ?_
            refine wp_region_N [(0, 1), (1, 1)] (by kernel_rfl) ?_
            refine wpS_this [0, 1] rfl (by kernel_rfl) (by simp only [pickL, nthL, List.cons_append, List.nil_append]; rfl) ?_
            repeat (go_big_quiet_step (fail))
            refine wpQuiet_nil ?_
            refine wpS_nil ?_
            refine then_normal ?_
            refine ⟨by kernel_rfl, ?_⟩
            refine ⟨T.length - (r + 1), by omega, r + 1, rfl, rfl, ?_, hr1, (Mem.only (M := [_, _, _, _]) HM64.out [0, 0, 0, 0] rfl)⟩
            rw [heldT_step ht.out x.2, hc.out]
            rw [decide_eq_false he.out]
            rfl
        · have hge5 : Hid (T.length ≤ r) := Lib.hid (by have : ¬ (r : Int) < ((T.length : Nat) : Int) := (by simpa using h65); omega)
          clear h65
          refine wp_exit ?_
          refine then_exit (then_exit (block_exit ?_))
          refine then_normal ?_
          refine wp_seq ?_
          skip
          · have hct : c = true := by rw [← hc.out, List.take_of_length_le hge5.out]; exact texts_all hT.out hx.out
            subst hct
            refine wp_region_N [(0, 1), (1, 1)] (by kernel_rfl) ?_
            refine wpS_this [0, 1] rfl (by kernel_rfl) (by simp only [pickL, nthL, List.cons_append, List.nil_append]; rfl) ?_
            repeat (go_big_quiet_step (fail))
            refine wpQuiet_nil ?_
            refine wpS_nil ?_
            refine then_normal ?_
            refine wp_cond_false rfl ?_
            refine wp_skip ?_
            refine block_normal ?_
            refine then_normal ?_
            refine wp_region_N [(0, 1), (1, 1)] (by kernel_rfl) ?_
            refine wpS_this [0, 1] rfl (by kernel_rfl) (by simp only [pickL, nthL, List.cons_append, List.nil_append]; rfl) ?_
            repeat (go_big_quiet_step (fail))
            refine wpQuiet_nil ?_
            refine wpS_nil ?_
            refine then_normal ?_
            refine ⟨by kernel_rfl, ?_⟩
            refine ⟨a.v.length - (q + 1), by omega, q + 1, rfl, rfl, hq1, (Mem.only (M := [_, _, _]) HM64.out [1, 1, 1] rfl)⟩
      · clear h53
        refine wp_exit ?_
        refine then_exit (then_exit (block_exit ?_))
        refine then_normal ?_
        refine wp_seq ?_
        skip
        · have g1 : decide ((T.length : Int) ≤ (a.v.length : Int)) = true := decide_eq_true (by have := hTl.out; omega)
          refine wp_region_N [(0, 1), (1, 1), (2, 1), (3, 1), (4, 1), (5, 1), (6, 1), (7, 1), (8, 3), (9, 1), (10, 1), (11, 3), (12, 1), (13, 1)] (by kernel_rfl) ?_
          refine wpS_this [0, 1, 2] rfl (by kernel_rfl) (by simp only [pickL, nthL, List.cons_append, List.nil_append]; rfl) ?_
          repeat (go_big_quiet_step (fail))
          refine wpQuiet_nil ?_
          refine wpS_load1 (i := 3) (d := some 87) (u := .slice pa a.v.length ca) rfl (by rfl) rfl rfl (HM52.out.part1 1 rfl bgC_sl) Try.underlying25 rfl rfl ?_
          simp only [Act.put, List.setIfInBounds_toArray, List.set_cons_succ, List.set_cons_zero]
          refine wpS_this [4, 5, 6, 7] rfl (by kernel_rfl) (by simp only [pickL, nthL, List.cons_append, List.nil_append]; rfl) ?_
          repeat (go_big_quiet_step (fail))
          refine wpQuiet_nil ?_
          refine wpS_does1 (i := 8) (d := some 92) (rem := [_, _, _]) (out := [_, _, _]) rfl (by rfl) rfl Try.call20 (rmay0_d) rfl HM52.out [] rfl covS_nil rfl rfl ?_
          rintro W70 hm69 -
          have HM71 := Lib.hid hm69
          clear hm69
          simp only [Act.put, List.setIfInBounds_toArray, List.set_cons_succ, List.set_cons_zero]
          refine wpS_this [9, 10] rfl (by kernel_rfl) (by simp only [pickL, nthL, List.cons_append, List.nil_append]; rfl) ?_
          repeat (go_big_quiet_step (fail))
          refine wpQuiet_nil ?_
          refine wpS_does0 (i := 11) (d := some 95) (rem := [_, _, _]) (out := [_, _, _]) rfl (by rfl) rfl Try.call8 (bawake_d)  HM71.out [] rfl covS_nil rfl rfl ?_
          rintro W73 hm72 -
          have HM74 := Lib.hid hm72
          clear hm72
          simp only [Act.put, List.setIfInBounds_toArray, List.set_cons_succ, List.set_cons_zero]
          refine wpS_this [12, 13] rfl (by kernel_rfl) (by simp only [pickL, nthL, List.cons_append, List.nil_append]; rfl) ?_
          repeat (go_big_quiet_step (fail))
          refine wpQuiet_nil ?_
          refine wpS_nil ?_
          refine then_normal ?_
          refine wp_ret ?_
          refine bodyPost_ret (results_tmp rfl _ _ _) rfl ?_
          exact does_ret (Mem.only (M := [_]) HM74.out [2] rfl) rfl rfl

end Go.Proofs.Ytneeidedadlioaa
