/- Plans: PlanRow. -/
import Derived.Test.YtcdhipflfnafaaaPlaH
namespace Go.Proofs.Ytcdhipflfnafaaa
open Go Go.RowKit Go.BigFrame

/-- A plan beside where its targets lie. -/
abbrev Pk : Type := Pl × Option Addr × Nat
def hd (x : Pk) : Pc := ⟨x.1.1, x.1.2.1, x.2.1, x.1.2.2.length, x.2.2⟩
def rwT (x : Pk) : At := rowT elemI (.slice x.2.1 x.1.2.2.length x.2.2) x.1.2.2
/-- The targets of some plans: each a row of its own. -/
def plansT (A : List Pk) : At := listT (A.map rwT)
theorem srcP {A : List Pk} {k : Nat} {x : Pk} (h : A[k]? = some x) : Reads elemI (plansT A) (.slice x.2.1 x.1.2.2.length x.2.2) x.1.2.2 := srcL k (A := rwT x) (by rw [List.getElem?_map, h]; rfl) rowT_reads
section
variable {L : List At} {H0 : Nat → Prop} {w W : World}
theorem Mem.list1 {X : At} (h : Mem (X :: L) H0 w W) : Mem (listT [X] :: L) H0 w W := Mem.as h fun _ h => star_comm (starl_emp h)
theorem Mem.addRow {x : Pk} {A : List Pk} (h : Mem (rwT x :: plansT A :: L) H0 w W) : Mem (plansT (A ++ [x]) :: L) H0 w W := SEnd.mono h fun _ h => by
  have h1 := star_assoc' h
  refine star_mono (fun _ h2 => ?_) (fun _ h => h) h1
  show stars ((A ++ [x]).map rwT) _ _
  rw [List.map_append]
  exact stars_append (star_mono (fun _ h => h) (fun _ h => star_comm (starl_emp h)) (star_comm h2))
theorem row_formH {v : Value} {B : List Pk} (h : SrcE elemP W v (B.map hd)) : ∃ p c, v = .slice p B.length c := by
  obtain ⟨p, c, e⟩ := row_form h
  rw [List.length_map] at e
  exact ⟨p, c, e⟩
end
theorem hd_add (A : List Pk) (x : Pk) : A.map hd ++ [hd x] = (A ++ [x]).map hd := by rw [List.map_append]; rfl
def tgP (i : Nat) : List Int := (List.range 16).map fun k : Nat => ((i : Int) + (k : Int)) % 8
theorem tgP_len (i : Nat) : (tgP i).length = 16 := by simp [tgP]
theorem tgP_at {i j : Nat} (h : j < 16) : (tgP i)[j]? = some (((i : Int) + (j : Int)) % 8) := by
  unfold tgP
  rw [List.getElem?_map, List.getElem?_range h]
  rfl
theorem tgP_tgt (i : Nat) : tgtL (tgP i) = true := by
  unfold tgtL
  rw [decide_eq_true (tgP_len i), Bool.true_and, List.all_eq_true]
  intro x hx
  unfold tgP at hx
  rw [List.mem_map] at hx
  obtain ⟨k, _, rfl⟩ := hx
  exact decide_eq_true (by omega)
theorem tgP_step {i j : Nat} {zs : List Int} (hl : zs.length = 16) (hj : j < 16) (h : ∀ m, m < j → zs[m]? = (tgP i)[m]?) : ∀ m, m < j + 1 → (zs.set j (((i : Int) + (j : Int)) % 8))[m]? = (tgP i)[m]? := fun m hm => by
  rcases Nat.lt_or_eq_of_le (Nat.le_of_lt_succ hm) with hlt | rfl
  · rw [List.getElem?_set_ne (by omega)]
    exact h m hlt
  · rw [List.getElem?_set_self (by omega), tgP_at hj]
theorem tgP_end {i : Nat} {zs : List Int} (hl : zs.length = 16) (h : ∀ m, m < 16 → zs[m]? = (tgP i)[m]?) : zs = tgP i := by
  apply List.ext_getElem?
  intro m
  by_cases hm : m < 16
  · exact h m hm
  · rw [List.getElem?_eq_none (by omega), List.getElem?_eq_none (by rw [tgP_len]; omega)]
def plP (l : List Int) : Nat → Pl
  | 0 => (0, 0, [])
  | i + 1 => ((i : Int) + 1, ow (l.getD i 0), tgP i)
theorem plP_v (l : List Int) (i : Nat) : (plP l i).1 = (i : Int) := by cases i <;> rfl
theorem plP_len (l : List Int) (i : Nat) : (plP l i).2.2.length ≤ 16 := by
  cases i
  · exact Nat.zero_le _
  · exact Nat.le_of_eq (tgP_len _)
theorem plP_may (l : List Int) (i : Nat) (hi : i ≤ 1000) : mayP (plP l i) = true := by
  cases i with
  | zero =>
    show mayP (0, 0, []) = true
    decide
  | succ i =>
    show mayP ((i : Int) + 1, ow (l.getD i 0), tgP i) = true
    unfold mayP
    dsimp only
    rw [ow_node, tgP_tgt, decide_eq_true (show 1 ≤ (i : Int) + 1 ∧ (i : Int) + 1 ≤ 1000000 by omega)]
    simp
theorem plP_next {l : List Int} {k : Nat} {x : Int} (h : l[k]? = some x) : plP l (k + 1) = ((k : Int) + 1, ow x, tgP k) := by
  show ((k : Int) + 1, ow (l.getD k 0), tgP k) = _
  rw [List.getD_eq_getElem?_getD, h]
  rfl
theorem nextP_yes {x : Pl} {n : Int} {t : List Int} (h1 : mayP x = true) (h2 : nodeE n = true) (h3 : tgtL t = true) (h4 : x.1 ≠ 1000000) : nextP x n t = ((x.1 + 1, n, t), 0) := by
  unfold nextP
  rw [if_pos ⟨h1, h2, h3⟩, if_neg h4]
def allP (l : List Int) (k : Nat) : List Pl := (List.range (k + 1)).map (plP l)
theorem allP_succ (l : List Int) (k : Nat) : allP l (k + 1) = allP l k ++ [plP l (k + 1)] := by
  unfold allP
  rw [List.range_succ (n := k + 1), List.map_append]
  rfl
theorem allP_len {A : List Pk} {l : List Int} {k : Nat} (h : A.map (·.1) = allP l k) : A.length = k + 1 := by
  have := congrArg List.length h
  simpa [allP] using this
theorem allP_at {A : List Pk} {l : List Int} {k j : Nat} {x : Pk} (h : A.map (·.1) = allP l k) (hx : A[j]? = some x) : x.1 = plP l j := by
  have hj : j < k + 1 := by rw [← allP_len h]; exact (List.getElem?_eq_some_iff.1 hx).1
  have h1 : (A.map (·.1))[j]? = some x.1 := by rw [List.getElem?_map, hx]; rfl
  rw [h] at h1
  unfold allP at h1
  rw [List.getElem?_map, List.getElem?_range hj] at h1
  exact (Option.some.inj h1).symm
theorem cmpP_le_v {a b : Pl} (h : cmpP a b ≤ 0) : a.1 ≤ b.1 := by
  by_cases h1 : b.1 < a.1
  · have := cmpP_v h1
    omega
  · omega
def InvP (l : List Int) (K kk i : Nat) (g : Pl) : Prop := (∀ j, j < i → cmpP (plP l ((j + kk) % (K + 1))) g ≤ 0) ∧ ∃ j, j ≤ K ∧ g = plP l j
theorem invP_zero (l : List Int) (K kk : Nat) : InvP l K kk 0 (0, 0, []) := ⟨fun j h => by omega, 0, Nat.zero_le _, rfl⟩
theorem invP_step {l : List Int} {K kk i : Nat} {g : Pl} (h : InvP l K kk i g) : InvP l K kk (i + 1) (joinP g (plP l ((i + kk) % (K + 1)))) := by
  obtain ⟨h1, h2⟩ := h
  refine ⟨fun j hj => ?_, ?_⟩
  · rcases Nat.lt_or_eq_of_le (Nat.le_of_lt_succ hj) with hlt | rfl
    · exact cmpP_cmp.trans (h1 j hlt) (joinP_le _ _).1
    · exact (joinP_le _ _).2
  · rcases joinP_or g (plP l ((i + kk) % (K + 1))) with e | e <;> rw [e]
    · exact h2
    · exact ⟨_, Nat.le_of_lt_succ (Nat.mod_lt _ (Nat.succ_pos K)), rfl⟩
theorem invP_end {l : List Int} {K kk : Nat} {g : Pl} (hk : kk ≤ K) (h : InvP l K kk (K + 1) g) : g = plP l K := by
  obtain ⟨h1, j, hj, rfl⟩ := h
  have h3 := cmpP_le_v (h1 (K - kk) (by omega))
  rw [show K - kk + kk = K by omega, Nat.mod_eq_of_lt (Nat.lt_succ_self K), plP_v, plP_v] at h3
  obtain rfl : j = K := by omega
  rfl
theorem invP_len {l : List Int} {K kk i : Nat} {g : Pl} (h : InvP l K kk i g) : g.2.2.length ≤ 16 := by
  obtain ⟨_, j, _, rfl⟩ := h
  exact plP_len l j
theorem pk_letters (x : Pk) : ∃ a b t p c, x = ((a, b, t), (p, c)) := ⟨x.1.1, x.1.2.1, x.1.2.2, x.2.1, x.2.2, rfl⟩
set_option maxHeartbeats 4000000 in
set_option maxRecDepth 100000 in
theorem row_d (W0 : World) (vl : Value) (l : List Int) (turn : Int) (hl0 : SrcE elemI W0 vl l) : Does Try.prog 6 #[vl, .int .i64 turn] [oldT W0] (.bool true) [oldT W0] := by
  intro w H hp
  have HM0 := Lib.hid (mem_refl hp)
  clear hp
  obtain ⟨p0, c0, rfl⟩ := row_form hl0
  go_enter Try.func6, Try.ntmps6
  refine wp_seq ?_
  refine wp_region_N [(0, 1)] (by kernel_rfl) ?_
  refine wpS_this [0] rfl (by kernel_rfl) (by simp only [pickL, nthL, List.cons_append, List.nil_append]; rfl) ?_
  repeat (go_big_quiet_step (fail))
  refine wpQuiet_nil ?_
  refine wpS_nil ?_
  refine then_normal ?_
  refine wp_seq ?_
  refine wp_seq ?_
  by_cases hl : l.length ≤ 40
  · have g0 : decide (40 < l.length) = false := decide_eq_false (by omega)
    have g0' : decide ((40 : Int) < (l.length : Int)) = false := decide_eq_false (by omega)
    refine wp_region_N [(0, 1), (1, 1), (2, 1)] (by kernel_rfl) ?_
    refine wpS_this [0, 1, 2] rfl (by kernel_rfl) (by simp only [pickL, nthL, List.cons_append, List.nil_append]; rfl) ?_
    repeat (go_big_quiet_step (fail))
    refine wpQuiet_nil ?_
    refine wpS_nil ?_
    refine then_normal ?_
    refine wp_cond_false rfl ?_
    refine wp_skip ?_
    refine then_normal ?_
    refine wp_seq ?_
    refine wp_region_N [(0, 1), (1, 3), (2, 3)] (by kernel_rfl) ?_
    refine wpS_this [0] rfl (by kernel_rfl) (by simp only [pickL, nthL, List.cons_append, List.nil_append]; rfl) ?_
    repeat (go_big_quiet_step (fail))
    refine wpQuiet_nil ?_
    refine wpS_alloc (i := 1) (dd := 5) (z := .agg #[.int .i64 0, .int .i64 0, .slice none 0 0]) (cs := #[.int .i64 0, .int .i64 0, .slice none 0 0]) rfl (by rfl) rfl (by kernel_rfl) rfl HM0.out covS_nil rfl ?_
    rintro b3 W2 hm1 -
    have HM4 := Lib.hid hm1
    clear hm1
    simp only [Act.put, List.setIfInBounds_toArray, List.set_cons_succ, List.set_cons_zero]
    refine wpS_storeA (i := 2) (L2 := [_]) (cs' := [_, _, _]) rfl (by rfl) rfl rfl rfl (by kernel_rfl) (by rfl) HM4.out 0 rfl rfl rfl rfl covS_nil rfl ?_
    rintro W6 hm5 -
    have HM7 := Lib.hid hm5
    clear hm5
    refine wpS_nil ?_
    refine then_normal ?_
    refine wp_seq ?_
    refine wp_region_N [(0, 1), (1, 3), (2, 1)] (by kernel_rfl) ?_
    have Cb5 := Mem.cell HM7.out 0 rfl
    refine wpS_this [0] rfl (by kernel_rfl) (by simp only [pickL, nthL, List.cons_append, List.nil_append]; rfl) ?_
    repeat (go_big_quiet_step (fail))
    refine wpQuiet_nil ?_
    clear Cb5
    refine wpS_build1 elemP (i := 1) (dd := 22) (y := ⟨0, 0, none, 0, 0⟩) rfl (by rfl) rfl rfl rfl (by decide) HM7.out covS_nil rfl ?_
    rintro b10 W11 hm12 -
    have HM13 := Lib.hid hm12
    clear hm12
    simp only [Act.put, List.setIfInBounds_toArray, List.set_cons_succ, List.set_cons_zero]
    refine wpS_this [2] rfl (by kernel_rfl) (by simp only [pickL, nthL, List.cons_append, List.nil_append]; rfl) ?_
    repeat (go_big_quiet_step (fail))
    refine wpQuiet_nil ?_
    refine wpS_nil ?_
    refine then_normal ?_
    refine wp_seq ?_
    refine wp_seq ?_
    have hnp := Mem.list1 (Mem.nilRow elemI HM13.out)
    have HM14 := Lib.hid hnp
    clear hnp
    refine wp_region_N [(0, 1), (1, 1), (2, 1)] (by kernel_rfl) ?_
    refine wpS_this [0, 1, 2] rfl (by kernel_rfl) (by simp only [pickL, nthL, List.cons_append, List.nil_append]; rfl) ?_
    repeat (go_big_quiet_step (fail))
    refine wpQuiet_nil ?_
    refine wpS_nil ?_
    refine then_normal ?_
    refine wp_block ?_
    refine wp_loop_F [4, 6, 7, 8, 9, 10, 11, 12, 25, 26, 27, 28, 29, 30, 31, 32, 33, 34, 35, 36, 37, 38, 39, 40, 41, 42, 43, 44, 45, 46, 47, 48, 49, 50, 51, 52, 53, 54, 55, 56, 57, 58, 59, 60, 61] (fun n vs W' => ∃ (k : Nat) (A : List Pk) (p : Option Addr) (c : Nat) (v b : Int) (t : List Int) (pp : Option Addr) (pc : Nat), n = l.length - k ∧ vs 25 = .int .i64 (k : Int) ∧ vs 6 = .slice p A.length c ∧ k ≤ l.length ∧ A.map (·.1) = allP l k ∧ A[k]? = some ((v, b, t), (pp, pc)) ∧ Mem [plansT A, rowT elemP (.slice p A.length c) (A.map hd), boxT b3 (.cells #[.int .i64 v, .int .i64 b, .slice pp t.length pc] 24 (0, 0)), oldT W0] H w W') (n0 := l.length) ?_ ?_
    · exact ⟨0, [((0, 0, []), none, 0)], _, _, 0, 0, [], none, 0, rfl, rfl, rfl, Nat.zero_le _, rfl, rfl, (Mem.only (M := [_, _, _, _]) HM14.out [0, 0, 0, 0] rfl)⟩
    rintro n vs W' ⟨k, A, p, c, v, b, t, pp, pc, rfl, e25, e6, hk, hA', hAk', hm⟩
    simp only [putAll, List.map_cons, List.map_nil, Act.put, List.setIfInBounds_toArray, List.set_cons_succ, List.set_cons_zero]
    rw [e25, e6]
    clear e25 e6
    have hvb' : (v, b, t) = plP l k := allP_at hA' hAk'
    have hv' : v = (k : Int) := (congrArg (·.1) hvb').trans (plP_v l k)
    have hv0 : 0 ≤ v := by omega
    have hv1 : v ≤ 40 := by omega
    have htl : t.length ≤ 16 := by have := plP_len l k; rw [← hvb'] at this; exact this
    have hAl' : A.length = k + 1 := allP_len hA'
    have hA41 : A.length ≤ 41 := by omega
    have hA := Lib.hid hA'
    clear hA'
    have hAk := Lib.hid hAk'
    clear hAk'
    have hvb := Lib.hid hvb'
    clear hvb'
    have hv := Lib.hid hv'
    clear hv'
    have hAl := Lib.hid hAl'
    clear hAl'
    have HM15 := Lib.hid hm
    clear hm
    refine wp_seq ?_
    refine wp_region_N [(0, 1)] (by kernel_rfl) ?_
    refine wpS_this [0] rfl (by kernel_rfl) (by simp only [pickL, nthL, List.cons_append, List.nil_append]; rfl) ?_
    repeat (go_big_quiet_step (fail))
    refine wpQuiet_nil ?_
    refine wpS_nil ?_
    refine then_normal ?_
    refine wp_seq ?_
    refine wp_cond_split rfl (fun h16 => ?_) (fun h16 => ?_)
    · have hk1 : k + 1 ≤ l.length := by have : (k : Int) < ((l.length : Nat) : Int) := (by simpa using h16); omega
      clear h16
      obtain ⟨x, hx'⟩ : ∃ y, l[k]? = some y := ⟨_, List.getElem?_eq_getElem (hk1)⟩
      have hx := Lib.hid hx'
      clear hx'
      refine wp_skip ?_
      refine then_normal ?_
      refine wp_seq ?_
      refine wp_block ?_
      refine wp_seq ?_
      refine wp_region_N [(0, 1), (1, 1), (2, 1), (3, 1), (4, 1)] (by kernel_rfl) ?_
      refine wpS_this [0] rfl (by kernel_rfl) (by simp only [pickL, nthL, List.cons_append, List.nil_append]; rfl) ?_
      repeat (go_big_quiet_step (fail))
      refine wpQuiet_nil ?_
      refine wpS_index (E := elemI) (i := 1) (d := some 28) rfl (by rfl) rfl rfl rfl (HM15.out.row 3 rfl (srcOld hl0).row) (hx.out) rfl ?_
      intro eb17 eo18 hc19
      simp only [Act.put, List.setIfInBounds_toArray, List.set_cons_succ, List.set_cons_zero]
      refine wpS_load1 (i := 2) (d := some 29) (u := .int .i64 x) rfl (by rfl) rfl rfl (hc19 0 _ rfl) Try.underlying3 rfl rfl ?_
      simp only [Act.put, List.setIfInBounds_toArray, List.set_cons_succ, List.set_cons_zero]
      refine wpS_this [3, 4] rfl (by kernel_rfl) (by simp only [pickL, nthL, List.cons_append, List.nil_append]; rfl) ?_
      repeat (go_big_quiet_step (fail))
      refine wpQuiet_nil ?_
      refine wpS_nil ?_
      refine then_normal ?_
      refine wp_seq ?_
      refine wp_region_N [(0, 3), (1, 1)] (by kernel_rfl) ?_
      refine wpS_makeI (i := 0) (dd := 30) (n := 16) rfl (by rfl) rfl rfl rfl (by omega) HM15.out covS_nil rfl ?_
      rintro zb W23 hm22 -
      have HM24 := Lib.hid hm22
      clear hm22
      simp only [Act.put, List.setIfInBounds_toArray, List.set_cons_succ, List.set_cons_zero]
      refine wpS_this [1] rfl (by kernel_rfl) (by simp only [pickL, nthL, List.cons_append, List.nil_append]; rfl) ?_
      repeat (go_big_quiet_step (fail))
      refine wpQuiet_nil ?_
      refine wpS_nil ?_
      refine then_normal ?_
      refine wp_seq ?_
      refine wp_seq ?_
      refine wp_region_N [(0, 1), (1, 1), (2, 1)] (by kernel_rfl) ?_
      refine wpS_this [0, 1, 2] rfl (by kernel_rfl) (by simp only [pickL, nthL, List.cons_append, List.nil_append]; rfl) ?_
      repeat (go_big_quiet_step (fail))
      refine wpQuiet_nil ?_
      refine wpS_nil ?_
      refine then_normal ?_
      refine wp_block ?_
      refine wp_loop_F [10, 33, 34, 35, 36, 37, 38, 39, 40, 41, 42, 43] (fun n us W' => ∃ (j : Nat) (zs : List Int), n = 16 - j ∧ us 33 = .int .i64 (j : Int) ∧ j ≤ 16 ∧ zs.length = 16 ∧ (∀ m, m < j → zs[m]? = (tgP k)[m]?) ∧ Mem [intsT zb zs, plansT A, rowT elemP (.slice p A.length c) (A.map hd), boxT b3 (.cells #[.int .i64 v, .int .i64 b, .slice pp t.length pc] 24 (0, 0)), oldT W0] H w W') (n0 := 16) ?_ ?_
      · exact ⟨0, _, rfl, rfl, Nat.zero_le _, List.length_replicate, fun m h => by omega, (Mem.only (M := [_, _, _, _, _]) HM24.out [0, 0, 0, 0, 0] rfl)⟩
      rintro n us W' ⟨j, zs, rfl, e33, hj, hzl', hzi', hm1⟩
      simp only [putAll, List.map_cons, List.map_nil, Act.put, List.setIfInBounds_toArray, List.set_cons_succ, List.set_cons_zero]
      rw [e33]
      clear e33
      have hzl := Lib.hid hzl'
      clear hzl'
      have hzi := Lib.hid hzi'
      clear hzi'
      have HM25 := Lib.hid hm1
      clear hm1
      refine wp_seq ?_
      refine wp_region_N [(0, 1)] (by kernel_rfl) ?_
      refine wpS_this [0] rfl (by kernel_rfl) (by simp only [pickL, nthL, List.cons_append, List.nil_append]; rfl) ?_
      repeat (go_big_quiet_step (fail))
      refine wpQuiet_nil ?_
      refine wpS_nil ?_
      refine then_normal ?_
      refine wp_seq ?_
      refine wp_cond_split rfl (fun h26 => ?_) (fun h26 => ?_)
      · have hj1 : j + 1 ≤ 16 := by have : (j : Int) < 16 := (by simpa using h26); omega
        clear h26
        refine wp_skip ?_
        refine then_normal ?_
        refine wp_seq ?_
        refine wp_block ?_
        refine wp_seq ?_
        refine wp_region_N [(0, 1), (1, 1)] (by kernel_rfl) ?_
        refine wpS_this [0, 1] rfl (by kernel_rfl) (by simp only [pickL, nthL, List.cons_append, List.nil_append]; rfl) ?_
        repeat (go_big_quiet_step (fail))
        refine wpQuiet_nil ?_
        refine wpS_nil ?_
        refine then_normal ?_
        refine wp_region_N [(0, 1), (1, 1), (2, 1), (3, 1), (4, 1), (5, 1), (6, 1), (7, 3)] (by kernel_rfl) ?_
        refine wpS_this [0, 1, 2, 3, 4, 5] rfl (by kernel_rfl) (by simp only [pickL, nthL, List.cons_append, List.nil_append]; rfl) ?_
        repeat (go_big_quiet_step (fail))
        refine wpQuiet_nil ?_
        refine wpS_addrI (i := 6) (d := some 42) rfl (by rfl) rfl rfl rfl (by omega) rfl ?_
        simp only [Act.put, List.setIfInBounds_toArray, List.set_cons_succ, List.set_cons_zero]
        refine wpS_setI (i := 7) (L2 := [_, _, _, _]) rfl (by rfl) rfl rfl rfl HM25.out 0 rfl rfl (by have := hzl.out; omega) covS_nil rfl ?_
        rintro W28 hm27 -
        have HM29 := Lib.hid hm27
        clear hm27
        refine wpS_nil ?_
        refine block_normal ?_
        refine then_normal ?_
        refine wp_region_N [(0, 1), (1, 1)] (by kernel_rfl) ?_
        refine wpS_this [0, 1] rfl (by kernel_rfl) (by simp only [pickL, nthL, List.cons_append, List.nil_append]; rfl) ?_
        repeat (go_big_quiet_step (fail))
        refine wpQuiet_nil ?_
        refine wpS_nil ?_
        refine then_normal ?_
        refine ⟨by kernel_rfl, ?_⟩
        refine ⟨16 - (j + 1), by omega, j + 1, _, rfl, rfl, hj1, by rw [List.length_set]; exact hzl.out, tgP_step hzl.out (by omega) hzi.out, (Mem.only (M := [_, _, _, _, _]) HM29.out [0, 0, 0, 0, 0] rfl)⟩
      · have hje : Hid (16 ≤ j) := Lib.hid (by have : ¬ (j : Int) < 16 := (by simpa using h26); omega)
        clear h26
        refine wp_exit ?_
        refine then_exit (then_exit (block_exit ?_))
        refine then_normal ?_
        refine wp_seq ?_
        have hzz := tgP_end hzl.out (fun m hm => hzi.out m (by have := hje.out; omega))
        obtain ⟨tg, htg'⟩ : ∃ y, tgP k = y := ⟨_, rfl⟩
        have htgl' : tg.length = 16 := by rw [← htg']; exact tgP_len k
        rw [htg'] at hzz
        subst zs
        obtain ⟨q, hqo'⟩ := int_letter (ow x)
        have hmq' : wrap64 ((IntKind.u64.wrap x).tmod 8) = q := hqo'
        have hf' : nextP (v, b, t) q tg = ((v + 1, q, tg), 0) := nextP_yes (by rw [hvb.out]; exact plP_may l k (by omega)) (by rw [← hqo']; exact ow_node x) (by rw [← htg']; exact tgP_tgt k) (show v ≠ 1000000 by omega)
        have htg := Lib.hid htg'
        clear htg'
        have htgl := Lib.hid htgl'
        clear htgl'
        have hqo := Lib.hid hqo'
        clear hqo'
        have hmq := Lib.hid hmq'
        clear hmq'
        have hf := Lib.hid hf'
        clear hf'
        clear hzl hzi
        refine wp_region_N [(0, 1), (1, 1), (2, 1), (3, 1), (4, 1), (5, 1), (6, 3), (7, 1), (8, 1), (9, 1), (10, 3), (11, 3), (12, 1)] (by kernel_rfl) ?_
        have Cb5 := Mem.cell HM25.out 3 rfl
        refine wpS_this [0, 1, 2, 3] rfl (by kernel_rfl) (by simp only [pickL, nthL, List.cons_append, List.nil_append]; rfl) ?_
        repeat (go_big_quiet_step (fail))
        refine wpQuiet_nil ?_
        clear Cb5
        refine wpS_this [4] rfl (by kernel_rfl) (by simp only [pickL, nthL, List.cons_append, List.nil_append]; rfl) ?_
        repeat (go_big_quiet_step (fail))
        refine wpQuiet_nil ?_
        rw [hmq.out]
        refine wpS_this [5] rfl (by kernel_rfl) (by simp only [pickL, nthL, List.cons_append, List.nil_append]; rfl) ?_
        repeat (go_big_quiet_step (fail))
        refine wpQuiet_nil ?_
        refine wpS_doesU3 (i := 6) (d := some 51) (rem := [_, _, _]) rfl (by rfl) rfl Try.call10 (DoesU.ofList (next_d (listT [_, _]) _ v b t (srcL 0 rfl (srcP hAk.out)) (by omega) q _ tg (srcL 1 rfl (srcInts htgl.out)) (by have := htgl.out; omega) (v + 1) q tg 0 hf.out)) rfl rfl rfl HM25.out [1, 0] rfl covS_nil (fun _ => rfl) rfl ?_
        rintro u32 W31 hm30 -
        obtain ⟨px, cx, rfl, hm30q⟩ := Mem.next rfl hm30
        clear hm30
        have HM33 := Lib.hid hm30q
        clear hm30q
        simp only [Act.put, List.setIfInBounds_toArray, List.set_cons_succ, List.set_cons_zero]
        refine wpS_this [7, 8, 9] rfl (by kernel_rfl) (by simp only [pickL, nthL, List.cons_append, List.nil_append]; rfl) ?_
        repeat (go_big_quiet_step (fail))
        refine wpQuiet_nil ?_
        refine wpS_alloc (i := 10) (dd := 11) (z := .agg #[.int .i64 0, .int .i64 0, .slice none 0 0]) (cs := #[.int .i64 0, .int .i64 0, .slice none 0 0]) rfl (by rfl) rfl (by kernel_rfl) rfl HM33.out covS_nil rfl ?_
        rintro b36 W35 hm34 -
        have HM37 := Lib.hid hm34
        clear hm34
        simp only [Act.put, List.setIfInBounds_toArray, List.set_cons_succ, List.set_cons_zero]
        refine wpS_storeA (i := 11) (L2 := [_, _, _, _, _, _]) (cs' := [_, _, _]) rfl (by rfl) rfl rfl rfl (by kernel_rfl) (by rfl) HM37.out 0 rfl rfl rfl rfl covS_nil rfl ?_
        rintro W39 hm38 -
        have HM40 := Lib.hid hm38
        clear hm38
        refine wpS_this [12] rfl (by kernel_rfl) (by simp only [pickL, nthL, List.cons_append, List.nil_append]; rfl) ?_
        repeat (go_big_quiet_step (fail))
        refine wpQuiet_nil ?_
        refine wpS_nil ?_
        refine then_normal ?_
        refine wp_seq ?_
        refine wp_seq ?_
        refine wp_region_N [(0, 1), (1, 1)] (by kernel_rfl) ?_
        refine wpS_this [0, 1] rfl (by kernel_rfl) (by simp only [pickL, nthL, List.cons_append, List.nil_append]; rfl) ?_
        repeat (go_big_quiet_step (fail))
        refine wpQuiet_nil ?_
        refine wpS_nil ?_
        refine then_normal ?_
        refine wp_cond_false rfl ?_
        refine wp_skip ?_
        refine then_normal ?_
        refine wp_seq ?_
        refine wp_region_N [(0, 1), (1, 3)] (by kernel_rfl) ?_
        have Cb11 := Mem.cell HM40.out 0 rfl
        refine wpS_this [0] rfl (by kernel_rfl) (by simp only [pickL, nthL, List.cons_append, List.nil_append]; rfl) ?_
        repeat (go_big_quiet_step (fail))
        refine wpQuiet_nil ?_
        clear Cb11
        refine wpS_storeA (i := 1) (L2 := [_, _, _, _, _, _]) (cs' := [_, _, _]) rfl (by rfl) rfl rfl rfl (by kernel_rfl) (by rfl) HM40.out 5 rfl rfl rfl rfl covS_nil rfl ?_
        rintro W42 hm41 -
        have HM43 := Lib.hid hm41
        clear hm41
        refine wpS_nil ?_
        refine then_normal ?_
        refine wp_region_N [(0, 1), (1, 1), (2, 3), (3, 3), (4, 1)] (by kernel_rfl) ?_
        have Cb5 := Mem.cell HM43.out 0 rfl
        refine wpS_this [0, 1] rfl (by kernel_rfl) (by simp only [pickL, nthL, List.cons_append, List.nil_append]; rfl) ?_
        repeat (go_big_quiet_step (fail))
        refine wpQuiet_nil ?_
        clear Cb5
        refine wpS_build1 elemP (i := 2) (dd := 59) (y := ⟨v + 1, q, px, tg.length, cx⟩) rfl (by rfl) rfl rfl rfl (by decide) HM43.out covS_nil rfl ?_
        rintro b46 W47 hm48 -
        have HM49 := Lib.hid hm48
        clear hm48
        simp only [Act.put, List.setIfInBounds_toArray, List.set_cons_succ, List.set_cons_zero]
        refine wpS_append (E := elemP) (i := 3) (d := some 60) (L2 := [_, _, _, _, _, _, _]) rfl (by rfl) rfl HM49.out 6 rfl rfl (HM49.out.src 0 rfl rowT_reads) rfl (by rw [List.length_map]; show (A.length + 1) * 40 ≤ _; omega) rfl covS_nil rfl ?_
        rintro v52 W53 hm54 -
        have hm54a := hm54
        rw [show A.map hd ++ [(⟨v + 1, q, px, tg.length, cx⟩ : Pc)] = (A ++ [((v + 1, q, tg), (px, cx))]).map hd from hd_add A ((v + 1, q, tg), (px, cx))] at hm54a
        clear hm54
        obtain ⟨vp, vc, rfl⟩ := row_formH (Mem.src hm54a 0 rfl rowT_reads)
        have HM55 := Lib.hid hm54a
        clear hm54a
        simp only [Act.put, List.setIfInBounds_toArray, List.set_cons_succ, List.set_cons_zero]
        refine wpS_this [4] rfl (by kernel_rfl) (by simp only [pickL, nthL, List.cons_append, List.nil_append]; rfl) ?_
        repeat (go_big_quiet_step (fail))
        refine wpQuiet_nil ?_
        refine wpS_nil ?_
        refine block_normal ?_
        refine then_normal ?_
        refine wp_region_N [(0, 1), (1, 1)] (by kernel_rfl) ?_
        refine wpS_this [0, 1] rfl (by kernel_rfl) (by simp only [pickL, nthL, List.cons_append, List.nil_append]; rfl) ?_
        repeat (go_big_quiet_step (fail))
        refine wpQuiet_nil ?_
        refine wpS_nil ?_
        refine then_normal ?_
        refine ⟨by kernel_rfl, ?_⟩
        refine ⟨l.length - (k + 1), by omega, k + 1, A ++ [((v + 1, q, tg), (px, cx))], _, _, v + 1, q, tg, px, cx, rfl, rfl, rfl, hk1, ?_, ?_, Mem.addRow (x := ((v + 1, q, tg), (px, cx))) (Mem.only (M := [_, _, _, _, _]) HM55.out [4, 4, 0, 1, 3] rfl)⟩
        · rw [List.map_append, hA.out, allP_succ, plP_next hx.out, hqo.out, htg.out, hv.out]
          rfl
        · rw [show k + 1 = A.length from hAl.out.symm]
          simp
    · have hge : Hid (l.length ≤ k) := Lib.hid (by have : ¬ (k : Int) < ((l.length : Nat) : Int) := (by simpa using h16); omega)
      clear h16
      refine wp_exit ?_
      refine then_exit (then_exit (block_exit ?_))
      refine then_normal ?_
      refine wp_seq ?_
      obtain ⟨kk, hkl, hmod'⟩ := mod_small (A.length : Int) (by have := hAl.out; omega) (by omega) turn
      · have hkk : kk < A.length := by omega
        clear hkl
        have hmod := Lib.hid hmod'
        clear hmod'
        refine wp_region_N [(0, 1), (1, 1), (2, 1), (3, 1), (4, 1), (5, 1), (6, 1), (7, 1)] (by kernel_rfl) ?_
        refine wpS_this [0, 1, 2, 3, 4, 5, 6, 7] rfl (by kernel_rfl) (by simp only [pickL, nthL, List.cons_append, List.nil_append]; rfl) ?_
        repeat (go_big_quiet_step (fail))
        refine wpQuiet_nil ?_
        refine wpS_nil ?_
        refine then_normal ?_
        refine wp_seq ?_
        rw [hmod.out]
        · skip
          refine wp_region_N [(0, 1), (1, 3), (2, 3)] (by kernel_rfl) ?_
          refine wpS_this [0] rfl (by kernel_rfl) (by simp only [pickL, nthL, List.cons_append, List.nil_append]; rfl) ?_
          repeat (go_big_quiet_step (fail))
          refine wpQuiet_nil ?_
          refine wpS_alloc (i := 1) (dd := 14) (z := .agg #[.int .i64 0, .int .i64 0, .slice none 0 0]) (cs := #[.int .i64 0, .int .i64 0, .slice none 0 0]) rfl (by rfl) rfl (by kernel_rfl) rfl HM15.out covS_nil rfl ?_
          rintro b58 W57 hm56 -
          have HM59 := Lib.hid hm56
          clear hm56
          simp only [Act.put, List.setIfInBounds_toArray, List.set_cons_succ, List.set_cons_zero]
          refine wpS_storeA (i := 2) (L2 := [_, _, _, _]) (cs' := [_, _, _]) rfl (by rfl) rfl rfl rfl (by kernel_rfl) (by rfl) HM59.out 0 rfl rfl rfl rfl covS_nil rfl ?_
          rintro W61 hm60 -
          have HM62 := Lib.hid hm60
          clear hm60
          refine wpS_nil ?_
          refine then_normal ?_
          refine wp_seq ?_
          refine wp_seq ?_
          have hnl := Mem.nilRow elemI HM62.out
          have HM63 := Lib.hid hnl
          clear hnl
          refine wp_region_N [(0, 1), (1, 1), (2, 1)] (by kernel_rfl) ?_
          refine wpS_this [0, 1, 2] rfl (by kernel_rfl) (by simp only [pickL, nthL, List.cons_append, List.nil_append]; rfl) ?_
          repeat (go_big_quiet_step (fail))
          refine wpQuiet_nil ?_
          refine wpS_nil ?_
          refine then_normal ?_
          refine wp_block ?_
          refine wp_loop_F [15, 72, 73, 74, 75, 76, 77, 78, 79, 80, 81, 82, 83, 84, 85, 86] (fun n ws W' => ∃ (i : Nat) (g1 g2 : Int) (gt : List Int) (pg : Option Addr) (cg : Nat), n = A.length - i ∧ ws 72 = .int .i64 (i : Int) ∧ i ≤ A.length ∧ InvP l k kk i (g1, g2, gt) ∧ Mem [boxT b58 (.cells #[.int .i64 g1, .int .i64 g2, .slice pg gt.length cg] 24 (0, 0)), rowT elemI (.slice pg gt.length cg) gt, plansT A, rowT elemP (.slice p A.length c) (A.map hd), boxT b3 (.cells #[.int .i64 v, .int .i64 b, .slice pp t.length pc] 24 (0, 0)), oldT W0] H w W') (n0 := A.length) ?_ ?_
          · exact ⟨0, 0, 0, [], none, 0, rfl, rfl, Nat.zero_le _, invP_zero _ _ _, (Mem.only (M := [_, _, _, _, _, _]) HM63.out [1, 0, 0, 0, 0, 0] rfl)⟩
          rintro n ws W' ⟨i, g1, g2, gt, pg, cg, rfl, e72, hi, hinv', hm2⟩
          simp only [putAll, List.map_cons, List.map_nil, Act.put, List.setIfInBounds_toArray, List.set_cons_succ, List.set_cons_zero]
          rw [e72]
          clear e72
          have hgl := invP_len hinv'
          have hgl : gt.length ≤ 16 := hgl
          have hinv := Lib.hid hinv'
          clear hinv'
          have HM64 := Lib.hid hm2
          clear hm2
          refine wp_seq ?_
          refine wp_region_N [(0, 1)] (by kernel_rfl) ?_
          refine wpS_this [0] rfl (by kernel_rfl) (by simp only [pickL, nthL, List.cons_append, List.nil_append]; rfl) ?_
          repeat (go_big_quiet_step (fail))
          refine wpQuiet_nil ?_
          refine wpS_nil ?_
          refine then_normal ?_
          refine wp_seq ?_
          refine wp_cond_split rfl (fun h65 => ?_) (fun h65 => ?_)
          · have hi1 : i + 1 ≤ A.length := by have : (i : Int) < ((A.length : Nat) : Int) := (by simpa using h65); omega
            clear h65
            obtain ⟨yk, hyk⟩ : ∃ y, A[(i + kk) % A.length]? = some y := ⟨_, List.getElem?_eq_getElem (Nat.mod_lt _ (by omega))⟩
            obtain ⟨y1, y2, sy, py, cy, rfl⟩ := pk_letters yk
            have hyA' := hyk
            have hyy' : (y1, y2, sy) = plP l ((i + kk) % (k + 1)) := by have := allP_at hA.out hyk; rwa [hAl.out] at this
            have hyl : sy.length ≤ 16 := by have := plP_len l ((i + kk) % (k + 1)); rw [← hyy'] at this; exact this
            have hyH' : (A.map hd)[(i + kk) % A.length]? = some ⟨y1, y2, py, sy.length, cy⟩ := by rw [List.getElem?_map, hyk]; rfl
            clear hyk
            have hrm' : ((i : Int) + (kk : Int)) % (A.length : Int) = (((i + kk) % A.length : Nat) : Int) := (Int.natCast_emod (i + kk) A.length).symm
            obtain ⟨u1, u2, su, hu'⟩ := plan_letters (joinP (g1, g2, gt) (y1, y2, sy))
            have hu := Lib.hid hu'
            clear hu'
            have hyA := Lib.hid hyA'
            clear hyA'
            have hyy := Lib.hid hyy'
            clear hyy'
            have hyH := Lib.hid hyH'
            clear hyH'
            have hrm := Lib.hid hrm'
            clear hrm'
            refine wp_skip ?_
            refine then_normal ?_
            refine wp_seq ?_
            refine wp_block ?_
            refine wp_seq ?_
            refine wp_region_N [(0, 1), (1, 1)] (by kernel_rfl) ?_
            refine wpS_this [0, 1] rfl (by kernel_rfl) (by simp only [pickL, nthL, List.cons_append, List.nil_append]; rfl) ?_
            repeat (go_big_quiet_step (fail))
            refine wpQuiet_nil ?_
            refine wpS_nil ?_
            refine then_normal ?_
            refine wp_region_M (fun k => k ∈ ([] : List Nat)) [(0, 1), (1, 1), (2, 1), (3, 1), (4, 1), (5, 1), (6, 1), (7, 1), (8, 1), (9, 1), (10, 3), (11, 3)] (by kernel_rfl) (by kernel_rfl) HM64.out ?_
            intro W66 hm67
            have HM68 := Lib.hid hm67
            clear hm67
            have Cb14 := Mem.cell HM68.out 0 rfl
            refine wpS_this [0, 1, 2, 3, 4, 5, 6] rfl (by kernel_rfl) (by simp only [pickL, nthL, List.cons_append, List.nil_append]; rfl) ?_
            repeat (go_big_quiet_step (fail))
            refine wpQuiet_nil ?_
            clear Cb14
            refine wpS_this [7] rfl (by kernel_rfl) (by simp only [pickL, nthL, List.cons_append, List.nil_append]; rfl) ?_
            repeat (go_big_quiet_step (fail))
            refine wpQuiet_nil ?_
            rw [hrm.out]
            refine wpS_index (E := elemP) (i := 8) (d := some 83) rfl (by rfl) rfl rfl rfl (HM68.out.row 3 rfl rowOwnE) (hyH.out) rfl ?_
            intro eb69 eo70 hc71
            simp only [Act.put, List.setIfInBounds_toArray, List.set_cons_succ, List.set_cons_zero]
            refine wpS_loadA (i := 9) (d := some 84) (cells := [.int .i64 y1, .int .i64 y2, .slice py sy.length cy]) rfl (by rfl) rfl rfl hc71 Try.underlying24 rfl (by kernel_rfl) rfl ?_
            simp only [Act.put, List.setIfInBounds_toArray, List.set_cons_succ, List.set_cons_zero]
            refine wpS_doesU2 (i := 10) (d := some 85) (rem := [_, _, _, _]) rfl (by rfl) rfl Try.call17 (DoesU.ofList (join_d (listT [_, _]) _ g1 g2 gt (srcL 0 rfl rowT_reads) (by omega) _ y1 y2 sy (srcL 1 rfl (srcP hyA.out)) (by omega) u1 u2 su hu.out)) rfl rfl HM68.out [1, 1] rfl covS_nil (fun _ => rfl) rfl ?_
            rintro u74 W73 hm72 -
            obtain ⟨pu, cu, rfl, hm72q⟩ := Mem.plan rfl hm72
            clear hm72
            have HM75 := Lib.hid hm72q
            clear hm72q
            simp only [Act.put, List.setIfInBounds_toArray, List.set_cons_succ, List.set_cons_zero]
            refine wpS_storeA (i := 11) (L2 := [_, _, _, _, _, _]) (cs' := [_, _, _]) rfl (by rfl) rfl rfl rfl (by kernel_rfl) (by rfl) HM75.out 3 rfl rfl rfl rfl covS_nil rfl ?_
            rintro W77 hm76 -
            have HM78 := Lib.hid hm76
            clear hm76
            refine wpS_nil ?_
            refine block_normal ?_
            refine then_normal ?_
            refine wp_region_N [(0, 1), (1, 1)] (by kernel_rfl) ?_
            refine wpS_this [0, 1] rfl (by kernel_rfl) (by simp only [pickL, nthL, List.cons_append, List.nil_append]; rfl) ?_
            repeat (go_big_quiet_step (fail))
            refine wpQuiet_nil ?_
            refine wpS_nil ?_
            refine then_normal ?_
            refine ⟨by kernel_rfl, ?_⟩
            refine ⟨A.length - (i + 1), by omega, i + 1, u1, u2, su, pu, cu, rfl, rfl, hi1, ?_, (Mem.only (M := [_, _, _, _, _, _]) HM78.out [0, 0, 1, 1, 1, 1] rfl)⟩
            rw [← hu.out, hyy.out]
            exact invP_step hinv.out
          · have hge3 : Hid (A.length ≤ i) := Lib.hid (by have : ¬ (i : Int) < ((A.length : Nat) : Int) := (by simpa using h65); omega)
            clear h65
            refine wp_exit ?_
            refine then_exit (then_exit (block_exit ?_))
            refine then_normal ?_
            refine wp_seq ?_
            have hge2 : i = A.length := by have := hge3.out; omega
            · have hgo : ((g1, g2, gt) : Pl) = (v, b, t) := by
                  rw [hvb.out]
                  refine invP_end (kk := kk) (by have := hAl.out; omega) ?_
                  have := hinv.out
                  rwa [hge2, hAl.out] at this
              have ggo : Hid (decide (((g1, g2, gt) : Pl) = (v, b, t)) = true) := Lib.hid (decide_eq_true hgo)
              have gvl : (v == (l.length : Int)) = true := beq_iff_eq.2 (by have h1 := hv.out; have h2 := hge.out; omega)
              clear hgo hge2
              refine wp_region_N [(0, 1), (1, 1), (2, 3), (3, 1), (4, 1), (5, 1), (6, 1), (7, 1), (8, 1), (9, 1), (10, 1), (11, 3), (12, 1), (13, 1)] (by kernel_rfl) ?_
              have Cb14 := Mem.cell HM64.out 0 rfl
              have Cb5 := Mem.cell HM64.out 4 rfl
              refine wpS_this [0, 1] rfl (by kernel_rfl) (by simp only [pickL, nthL, List.cons_append, List.nil_append]; rfl) ?_
              repeat (go_big_quiet_step (fail))
              refine wpQuiet_nil ?_
              clear Cb14 Cb5
              refine wpS_does2 (i := 2) (d := some 89) (rem := [_, _, _, _]) (out := [_, _, _, _, _, _]) rfl (by rfl) rfl Try.call16 (Does.ofList (same_d (listT [_, _]) _ g1 g2 gt (srcL 0 rfl rowT_reads) (by omega) _ v b t (srcL 1 rfl (srcP hAk.out)) (by omega))) rfl rfl HM64.out [1, 1] rfl covS_nil rfl rfl ?_
              rintro W80 hm79 -
              rw [ggo.out]
              have HM81 := Lib.hid hm79
              clear hm79
              simp only [Act.put, List.setIfInBounds_toArray, List.set_cons_succ, List.set_cons_zero]
              have Cb5 := Mem.cell HM81.out 4 rfl
              refine wpS_this [3, 4, 5, 6, 7, 8, 9, 10] rfl (by kernel_rfl) (by simp only [pickL, nthL, List.cons_append, List.nil_append]; rfl) ?_
              repeat (go_big_quiet_step (fail))
              refine wpQuiet_nil ?_
              clear Cb5
              refine wpS_does0 (i := 11) (d := some 98) (rem := [_, _, _, _, _, _]) (out := [_, _, _, _, _, _]) rfl (by rfl) rfl Try.call9 (awake_d)  HM81.out [] rfl covS_nil rfl rfl ?_
              rintro W83 hm82 -
              have HM84 := Lib.hid hm82
              clear hm82
              simp only [Act.put, List.setIfInBounds_toArray, List.set_cons_succ, List.set_cons_zero]
              refine wpS_this [12, 13] rfl (by kernel_rfl) (by simp only [pickL, nthL, List.cons_append, List.nil_append]; rfl) ?_
              repeat (go_big_quiet_step (fail))
              refine wpQuiet_nil ?_
              refine wpS_nil ?_
              refine then_normal ?_
              refine wp_ret ?_
              refine bodyPost_ret (results_tmp rfl _ _ _) rfl ?_
              exact does_ret (Mem.only (M := [_]) HM84.out [5] rfl) rfl rfl
  · have g0 : decide (40 < l.length) = true := decide_eq_true (by omega)
    have g0' : decide ((40 : Int) < (l.length : Int)) = true := decide_eq_true (by omega)
    refine wp_region_N [(0, 1), (1, 1), (2, 1)] (by kernel_rfl) ?_
    refine wpS_this [0, 1, 2] rfl (by kernel_rfl) (by simp only [pickL, nthL, List.cons_append, List.nil_append]; rfl) ?_
    repeat (go_big_quiet_step (fail))
    refine wpQuiet_nil ?_
    refine wpS_nil ?_
    refine then_normal ?_
    refine wp_cond_true rfl ?_
    refine wp_seq ?_
    refine wp_region_N [(0, 3), (1, 1)] (by kernel_rfl) ?_
    refine wpS_does0 (i := 0) (d := some 19) (rem := [_]) (out := [_]) rfl (by rfl) rfl Try.call9 (awake_d)  HM0.out [] rfl covS_nil rfl rfl ?_
    rintro W86 hm85 -
    have HM87 := Lib.hid hm85
    clear hm85
    simp only [Act.put, List.setIfInBounds_toArray, List.set_cons_succ, List.set_cons_zero]
    refine wpS_this [1] rfl (by kernel_rfl) (by simp only [pickL, nthL, List.cons_append, List.nil_append]; rfl) ?_
    repeat (go_big_quiet_step (fail))
    refine wpQuiet_nil ?_
    refine wpS_nil ?_
    refine then_normal ?_
    refine wp_ret ?_
    refine then_ret ?_
    refine bodyPost_ret (results_tmp rfl _ _ _) rfl ?_
    exact does_ret (Mem.only (M := [_]) HM87.out [0] rfl) rfl rfl

end Go.Proofs.Ytcdhipflfnafaaa
