/- Plans: PlanOwn. -/
import Derived.Test.YtcdhipflfnafaaaPlaD
namespace Go.Proofs.Ytcdhipflfnafaaa
open Go Go.RowKit Go.BigFrame

section
variable {W W' w : World} {H0 : Nat → Prop} {L : List At} {S : Nat → Prop} {ops : Array Oper} {Q : Act → World → Prop} {rest : List (Nat × Nat)} {a : Act} {i : Nat} {o : Oper} {d : Option Tmp}
theorem row_block {p : Option Addr} {n cap : Nat} {xs : List Int} {H : Nat → Prop} (h : (rowT elemI (.slice p n cap) xs).p W H) (hx : xs ≠ []) : ∃ b cur, p = some ⟨b, 0, none⟩ ∧ n = xs.length ∧ n ≤ cap ∧ cap ≤ maxLen ∧ W.heap[b]? = some (.cells cur 3 (0, 0)) ∧ cur.size = cap ∧ cur.toList.take n = xs.map iV := by
  obtain ⟨⟨_, h1⟩, _⟩ := h
  rcases h1 with ⟨_, h0⟩ | ⟨g, c, cur, hv, _, hh, hc, hm, hsz, ht⟩
  · exact absurd (List.eq_nil_of_length_eq_zero h0) hx
  · simp only [Value.slice.injEq] at hv
    obtain ⟨rfl, rfl, rfl⟩ := hv
    rw [elemI_cells] at ht
    have hsz' : cur.size = cap := by rw [hsz]; show cap * 1 = cap; omega
    have ht' : cur.toList.take xs.length = xs.map iV := by rw [← ht]; show _ = cur.toList.take (xs.length * 1); rw [Nat.mul_one]
    exact ⟨g, cur, rfl, rfl, hc, hm, hh, hsz', ht'⟩
/-- The address of an element of a row of one's own. -/
theorem wpS_addrRow {x ix : Operand} {p : Option Addr} {n cap j : Nat} {xs : List Int} (hi : ops[i]? = some o) (hw : Region.wanted o (yielded ops a.tmps) = true) (ho : o.op = .indexAddr 22 x ix) (hx : a.eval x = .slice p n cap) (hix : a.eval ix = .int .i64 (j : Int)) (hm : Mem L H0 w W) (k : Nat) (hk : L[k]? = some (rowT elemI (.slice p n cap) xs)) (hj : j < xs.length) (hd : o.dst = d)
    (h : ∀ b, p = some ⟨b, 0, none⟩ → wpS Try.prog ops S Q rest (a.put d (.pointer (some ⟨b, j, none⟩))) W) : wpS Try.prog ops S Q ((i, 1) :: rest) a W := by
  have hne : xs ≠ [] := fun e => by rw [e] at hj; simp at hj
  have hb := hm.have k hk fun H h => row_block h hne
  obtain ⟨b, cur, hp, hn, _⟩ := hb
  subst hp
  exact wpS_addrI hi hw ho hx hix (by omega) hd (h b rfl)
/-- An element of a row of one's own is set. -/
theorem wpS_setRow {x y : Operand} {p : Option Addr} {b n cap j : Nat} {z : Int} {xs : List Int} {L2 : List At} (hi : ops[i]? = some o) (hw : Region.wanted o (yielded ops a.tmps) = true) (ho : o.op = .store 3 x y) (hx : a.eval x = .pointer (some ⟨b, j, none⟩)) (hy : a.eval y = .int .i64 z)
    (hm : Mem L H0 w W) (k : Nat) (hk : L[k]? = some (rowT elemI (.slice p n cap) xs)) (hp : p = some ⟨b, 0, none⟩) (hL2 : L.eraseIdx k = L2) (hj : j < xs.length) (hS : CovS L2 S) (hd : o.dst = none) (h : ∀ W', Mem (rowT elemI (.slice p n cap) (xs.set j z) :: L2) H0 w W' → GK S W W' → wpS Try.prog ops S Q rest a W') : wpS Try.prog ops S Q ((i, 3) :: rest) a W := by
  subst hL2 hp
  have hne : xs ≠ [] := fun e => by rw [e] at hj; simp at hj
  have hrb := hm.have k hk fun H h => row_block h hne
  obtain ⟨b', cur, hb, hn, hc, hmx, hh, hsz, ht⟩ := hrb
  simp only [Option.some.injEq, Addr.mk.injEq, and_true] at hb
  subst hb
  have hm1 : Mem (rowT elemI (.slice (some ⟨b, 0, none⟩) n cap) xs :: L.eraseIdx k) H0 w W := SEnd.mono hm fun _ h => stars_pick L k _ hk h
  have hm2 : Mem (boxT b (.cells cur.toList.toArray 3 (0, 0)) :: L.eraseIdx k) H0 w W := Mem.as hm1 fun H h => by
    exact ⟨hh, fun k => by rw [h.2 k]; simp [Value.ownBlock, eq_comm]⟩
  have hcl : cur.toList.length = cap := by rw [Array.length_toList, hsz]
  refine wpS_store (v := .int .i64 z) (vs := [.int .i64 z]) (cs := cur.toList) (cs' := cur.toList.set j (.int .i64 z)) hi hw ho hx hy rfl (by kernel_rfl) rfl hm2 0 rfl (by simp; omega) rfl hS hd fun W' hm3 hg => h W' ?_ hg
  refine Mem.as hm3 fun H h => ?_
  refine ⟨⟨by rw [Elem.cells_len], .inr ⟨b, cap, (cur.toList.set j (.int .i64 z)).toArray, by rw [List.length_set, hn], Nat.zero_le _, h.1, by rw [List.length_set]; omega, hmx, by show _ = cap * 1; simp; omega, ?_⟩⟩, fun k => ?_⟩
  · show List.take ((xs.set j z).length * 1) _ = _
    rw [elemI_cells, List.length_set, Nat.mul_one, List.map_set, ← ht, hn]
    exact List.take_set
  · rw [h.2 k]
    simp [Value.ownBlock, eq_comm]
end
theorem mod_small (m : Int) (hm : 1 ≤ m) (hm2 : m ≤ 1000) (n : Int) : ∃ k : Nat, (k : Int) < m ∧ wrap64 ((IntKind.u64.wrap n).tmod m) = (k : Int) := by
  have h0 : 0 ≤ IntKind.u64.wrap n := by
    unfold IntKind.wrap
    simp only [IntKind.signed, IntKind.bits, Bool.false_and, Bool.false_eq_true, if_false]
    exact Int.emod_nonneg _ (by decide)
  rw [Int.tmod_eq_emod_of_nonneg h0]
  have h1 := Int.emod_nonneg (IntKind.u64.wrap n) (show m ≠ 0 by omega)
  have h2 := Int.emod_lt_of_pos (IntKind.u64.wrap n) (show 0 < m by omega)
  obtain ⟨r, hr⟩ : ∃ r, IntKind.u64.wrap n % m = r := ⟨_, rfl⟩
  rw [hr] at h1 h2 ⊢
  refine ⟨r.toNat, by omega, ?_⟩
  unfold wrap64
  omega
def ow (n : Int) : Int := wrap64 ((IntKind.u64.wrap n).tmod 8)
theorem ow_node (n : Int) : nodeE (ow n) = true := by
  obtain ⟨k, h1, h2⟩ := mod_small 8 (by decide) (by decide) n
  refine decide_eq_true ?_
  unfold ow
  omega
theorem join_none {x : Pl} (h : mayP x = true) : joinP x (0, 0, []) = x := by
  by_cases h1 : 1 ≤ x.1
  · refine joinC_left ?_
    rw [cmpP_cmp.neg, cmpP_v (show (0, 0, ([] : List Int)).1 < x.1 from by dsimp only; omega)]
    decide
  · unfold mayP noneB at h
    simp only [Bool.or_eq_true, Bool.and_eq_true, decide_eq_true_eq] at h
    rcases h with ⟨h2, h3, h4⟩ | ⟨⟨h2, _⟩, _⟩
    · obtain ⟨x1, x2, x3⟩ := x
      dsimp only at h2 h3 h4
      obtain rfl := List.eq_nil_of_length_eq_zero h4
      subst h2 h3
      exact joinP_self _
    · omega
theorem own_next {x : Pl} {n : Int} {f : Pl} {e : Int} (hm : mayP x = true) (hn : nodeE n = true) (h : nextP x n (List.replicate 16 0) = (f, e)) : (e = 0 ∨ (e = 6 ∧ x.1 = 1000000)) ∧ f.2.2.length ≤ 16 ∧ ∀ (j : Nat) (y : Int), f.2.2[j]? = some y → y = 0 ∧ j < 16 := by
  rcases nextP_cases x n (List.replicate 16 0) with ⟨q, _⟩ | ⟨_, q, _⟩ | ⟨_, _, q, _⟩ | ⟨_, _, _, h4, q⟩ | ⟨_, _, _, _, q⟩
  · rw [hm] at q; cases q
  · rw [hn] at q; cases q
  · exact absurd (show tgtL (List.replicate 16 0) = true by decide) (by rw [q]; decide)
  · rw [h] at q
    have q1 := (Prod.mk.inj q).1
    have q2 := (Prod.mk.inj q).2
    subst q1
    exact ⟨.inr ⟨q2, h4⟩, Nat.zero_le _, fun j y hy => by simp at hy⟩
  · rw [h] at q
    have q1 := (Prod.mk.inj q).1
    have q2 := (Prod.mk.inj q).2
    subst q1
    refine ⟨.inl q2, by simp, fun j y hy => ?_⟩
    dsimp only at hy
    rw [List.getElem?_replicate] at hy
    split at hy
    · rename_i hj
      exact ⟨(Option.some.inj hy).symm, hj⟩
    · cases hy
set_option maxHeartbeats 4000000 in
set_option maxRecDepth 100000 in
theorem own_d (W0 : World) (va : Value) (a1 a2 : Int) (sa : List Int) (ha : SrcE elemI W0 va sa) (n : Int) (x : Int)  : Does Try.prog 5 #[.agg #[.int .i64 a1, .int .i64 a2, va], .int .i64 n, .int .i64 x] [oldT W0] (.bool true) [oldT W0] := by
  intro w H hp
  have HM0 := Lib.hid (mem_refl hp)
  clear hp
  obtain ⟨pa, ca, rfl⟩ := row_form ha
  go_enter Try.func5, Try.ntmps5
  refine wp_seq ?_
  refine wp_region_N [(0, 3), (1, 1)] (by kernel_rfl) ?_
  refine wpS_boxA (i := 0) (dd := 3) rfl (by rfl) rfl rfl HM0.out covS_nil rfl ?_
  rintro b3 W2 hm1 -
  have HM4 := Lib.hid hm1
  clear hm1
  simp only [Act.put, List.setIfInBounds_toArray, List.set_cons_succ, List.set_cons_zero]
  refine wpS_this [1] rfl (by kernel_rfl) (by simp only [pickL, nthL, List.cons_append, List.nil_append]; rfl) ?_
  repeat (go_big_quiet_step (fail))
  refine wpQuiet_nil ?_
  refine wpS_nil ?_
  refine then_normal ?_
  refine wp_seq ?_
  refine wp_seq ?_
  rcases (show ¬ sa.length ≤ 100 ∨ (sa.length ≤ 100 ∧ mayP (a1, a2, sa) = false) ∨ (sa.length ≤ 100 ∧ mayP (a1, a2, sa) = true) from by cases mayP (a1, a2, sa) <;> simp <;> omega) with hw | ⟨hw, hmy⟩ | ⟨hw, hmy⟩
  · have hfw : Hid (fewB [⟨a1, a2, pa, sa.length, ca⟩] = false) := Lib.hid ((few1 _).trans (decide_eq_false hw))
    refine wp_region_N [(0, 1), (1, 3), (2, 3), (3, 1), (4, 1), (5, 1), (6, 3), (7, 1), (8, 1)] (by kernel_rfl) ?_
    have Cb3 := Mem.cell HM4.out 0 rfl
    refine wpS_this [0] rfl (by kernel_rfl) (by simp only [pickL, nthL, List.cons_append, List.nil_append]; rfl) ?_
    repeat (go_big_quiet_step (fail))
    refine wpQuiet_nil ?_
    clear Cb3
    refine wpS_buildN elemP (i := 1) (dd := 17) (n := 1) (xs := [⟨a1, a2, pa, sa.length, ca⟩]) (cs := #[.int .i64 a1, .int .i64 a2, .slice pa sa.length ca]) rfl (by rfl) (fun _ => by kernel_rfl) rfl rfl HM4.out covS_nil rfl ?_
    rintro b7 W8 hm9 -
    have HM10 := Lib.hid hm9
    clear hm9
    simp only [Act.put, List.setIfInBounds_toArray, List.set_cons_succ, List.set_cons_zero]
    refine wpS_does1 (i := 2) (d := some 18) (rem := [_, _]) (out := [_, _, _]) rfl (by rfl) rfl Try.call8 (few_d (rowT elemP _ _) _ _ rowOwnE (Nat.le_of_ble_eq_true rfl)) rfl HM10.out [0] rfl covS_nil rfl rfl ?_
    rintro W12 hm11 -
    rw [hfw.out]
    have HM13 := Lib.hid hm11
    clear hm11
    simp only [Act.put, List.setIfInBounds_toArray, List.set_cons_succ, List.set_cons_zero]
    have Cb3 := Mem.cell HM13.out 1 rfl
    refine wpS_this [3, 4, 5] rfl (by kernel_rfl) (by simp only [pickL, nthL, List.cons_append, List.nil_append]; rfl) ?_
    repeat (go_big_quiet_step (fail))
    refine wpQuiet_nil ?_
    clear Cb3
    refine wpS_skip (i := 6) (d := some 22) rfl (by rfl) rfl ?_
    simp only [Act.put, List.setIfInBounds_toArray, List.set_cons_succ, List.set_cons_zero]
    refine wpS_this [7, 8] rfl (by kernel_rfl) (by simp only [pickL, nthL, List.cons_append, List.nil_append]; rfl) ?_
    repeat (go_big_quiet_step (fail))
    refine wpQuiet_nil ?_
    refine wpS_nil ?_
    refine then_normal ?_
    refine wp_cond_true rfl ?_
    refine wp_seq ?_
    refine wp_region_N [(0, 3), (1, 1)] (by kernel_rfl) ?_
    refine wpS_does0 (i := 0) (d := some 25) (rem := [_, _, _]) (out := [_, _, _]) rfl (by rfl) rfl Try.call9 (awake_d)  HM13.out [] rfl covS_nil rfl rfl ?_
    rintro W15 hm14 -
    have HM16 := Lib.hid hm14
    clear hm14
    simp only [Act.put, List.setIfInBounds_toArray, List.set_cons_succ, List.set_cons_zero]
    refine wpS_this [1] rfl (by kernel_rfl) (by simp only [pickL, nthL, List.cons_append, List.nil_append]; rfl) ?_
    repeat (go_big_quiet_step (fail))
    refine wpQuiet_nil ?_
    refine wpS_nil ?_
    refine then_normal ?_
    refine wp_ret ?_
    refine then_ret ?_
    refine bodyPost_ret (results_tmp rfl _ _ _) rfl ?_
    exact does_ret (Mem.only (M := [_]) HM16.out [2] rfl) rfl rfl
  · have hfw : Hid (fewB [⟨a1, a2, pa, sa.length, ca⟩] = true) := Lib.hid ((few1 _).trans (decide_eq_true hw))
    replace hw := Lib.hid hw
    replace hmy := Lib.hid hmy
    refine wp_region_N [(0, 1), (1, 3), (2, 3), (3, 1), (4, 1), (5, 1), (6, 3), (7, 1), (8, 1)] (by kernel_rfl) ?_
    have Cb3 := Mem.cell HM4.out 0 rfl
    refine wpS_this [0] rfl (by kernel_rfl) (by simp only [pickL, nthL, List.cons_append, List.nil_append]; rfl) ?_
    repeat (go_big_quiet_step (fail))
    refine wpQuiet_nil ?_
    clear Cb3
    refine wpS_buildN elemP (i := 1) (dd := 17) (n := 1) (xs := [⟨a1, a2, pa, sa.length, ca⟩]) (cs := #[.int .i64 a1, .int .i64 a2, .slice pa sa.length ca]) rfl (by rfl) (fun _ => by kernel_rfl) rfl rfl HM4.out covS_nil rfl ?_
    rintro b19 W20 hm21 -
    have HM22 := Lib.hid hm21
    clear hm21
    simp only [Act.put, List.setIfInBounds_toArray, List.set_cons_succ, List.set_cons_zero]
    refine wpS_does1 (i := 2) (d := some 18) (rem := [_, _]) (out := [_, _, _]) rfl (by rfl) rfl Try.call8 (few_d (rowT elemP _ _) _ _ rowOwnE (Nat.le_of_ble_eq_true rfl)) rfl HM22.out [0] rfl covS_nil rfl rfl ?_
    rintro W24 hm23 -
    rw [hfw.out]
    have HM25 := Lib.hid hm23
    clear hm23
    simp only [Act.put, List.setIfInBounds_toArray, List.set_cons_succ, List.set_cons_zero]
    have Cb3 := Mem.cell HM25.out 1 rfl
    refine wpS_this [3, 4, 5] rfl (by kernel_rfl) (by simp only [pickL, nthL, List.cons_append, List.nil_append]; rfl) ?_
    repeat (go_big_quiet_step (fail))
    refine wpQuiet_nil ?_
    clear Cb3
    refine wpS_does1 (i := 6) (d := some 22) (rem := [_, _]) (out := [_, _, _]) rfl (by rfl) rfl Try.call12 (may_d (oldT W0) _ a1 a2 sa (srcOld ha) (by have := hw.out; omega)) rfl HM25.out [2] rfl covS_nil rfl rfl ?_
    rintro W27 hm26 -
    rw [hmy.out]
    have HM28 := Lib.hid hm26
    clear hm26
    simp only [Act.put, List.setIfInBounds_toArray, List.set_cons_succ, List.set_cons_zero]
    refine wpS_this [7, 8] rfl (by kernel_rfl) (by simp only [pickL, nthL, List.cons_append, List.nil_append]; rfl) ?_
    repeat (go_big_quiet_step (fail))
    refine wpQuiet_nil ?_
    refine wpS_nil ?_
    refine then_normal ?_
    refine wp_cond_true rfl ?_
    refine wp_seq ?_
    refine wp_region_N [(0, 3), (1, 1)] (by kernel_rfl) ?_
    refine wpS_does0 (i := 0) (d := some 25) (rem := [_, _, _]) (out := [_, _, _]) rfl (by rfl) rfl Try.call9 (awake_d)  HM28.out [] rfl covS_nil rfl rfl ?_
    rintro W30 hm29 -
    have HM31 := Lib.hid hm29
    clear hm29
    simp only [Act.put, List.setIfInBounds_toArray, List.set_cons_succ, List.set_cons_zero]
    refine wpS_this [1] rfl (by kernel_rfl) (by simp only [pickL, nthL, List.cons_append, List.nil_append]; rfl) ?_
    repeat (go_big_quiet_step (fail))
    refine wpQuiet_nil ?_
    refine wpS_nil ?_
    refine then_normal ?_
    refine wp_ret ?_
    refine then_ret ?_
    refine bodyPost_ret (results_tmp rfl _ _ _) rfl ?_
    exact does_ret (Mem.only (M := [_]) HM31.out [0] rfl) rfl rfl
  · have hfw : Hid (fewB [⟨a1, a2, pa, sa.length, ca⟩] = true) := Lib.hid ((few1 _).trans (decide_eq_true hw))
    have la : sa.length ≤ 1000 := by omega
    replace hw := Lib.hid hw
    replace hmy := Lib.hid hmy
    refine wp_region_N [(0, 1), (1, 3), (2, 3), (3, 1), (4, 1), (5, 1), (6, 3), (7, 1), (8, 1)] (by kernel_rfl) ?_
    have Cb3 := Mem.cell HM4.out 0 rfl
    refine wpS_this [0] rfl (by kernel_rfl) (by simp only [pickL, nthL, List.cons_append, List.nil_append]; rfl) ?_
    repeat (go_big_quiet_step (fail))
    refine wpQuiet_nil ?_
    clear Cb3
    refine wpS_buildN elemP (i := 1) (dd := 17) (n := 1) (xs := [⟨a1, a2, pa, sa.length, ca⟩]) (cs := #[.int .i64 a1, .int .i64 a2, .slice pa sa.length ca]) rfl (by rfl) (fun _ => by kernel_rfl) rfl rfl HM4.out covS_nil rfl ?_
    rintro b34 W35 hm36 -
    have HM37 := Lib.hid hm36
    clear hm36
    simp only [Act.put, List.setIfInBounds_toArray, List.set_cons_succ, List.set_cons_zero]
    refine wpS_does1 (i := 2) (d := some 18) (rem := [_, _]) (out := [_, _, _]) rfl (by rfl) rfl Try.call8 (few_d (rowT elemP _ _) _ _ rowOwnE (Nat.le_of_ble_eq_true rfl)) rfl HM37.out [0] rfl covS_nil rfl rfl ?_
    rintro W39 hm38 -
    rw [hfw.out]
    have HM40 := Lib.hid hm38
    clear hm38
    simp only [Act.put, List.setIfInBounds_toArray, List.set_cons_succ, List.set_cons_zero]
    have Cb3 := Mem.cell HM40.out 1 rfl
    refine wpS_this [3, 4, 5] rfl (by kernel_rfl) (by simp only [pickL, nthL, List.cons_append, List.nil_append]; rfl) ?_
    repeat (go_big_quiet_step (fail))
    refine wpQuiet_nil ?_
    clear Cb3
    refine wpS_does1 (i := 6) (d := some 22) (rem := [_, _]) (out := [_, _, _]) rfl (by rfl) rfl Try.call12 (may_d (oldT W0) _ a1 a2 sa (srcOld ha) (by have := hw.out; omega)) rfl HM40.out [2] rfl covS_nil rfl rfl ?_
    rintro W42 hm41 -
    rw [hmy.out]
    have HM43 := Lib.hid hm41
    clear hm41
    simp only [Act.put, List.setIfInBounds_toArray, List.set_cons_succ, List.set_cons_zero]
    refine wpS_this [7, 8] rfl (by kernel_rfl) (by simp only [pickL, nthL, List.cons_append, List.nil_append]; rfl) ?_
    repeat (go_big_quiet_step (fail))
    refine wpQuiet_nil ?_
    refine wpS_nil ?_
    refine then_normal ?_
    refine wp_cond_false rfl ?_
    refine wp_skip ?_
    refine then_normal ?_
    refine wp_seq ?_
    obtain ⟨q, hqo'⟩ := int_letter (ow n)
    have hmq' : wrap64 ((IntKind.u64.wrap n).tmod 8) = q := hqo'
    have hqn := ow_node n
    rw [hqo'] at hqn
    have hqn := Lib.hid hqn
    have hqo := Lib.hid hqo'
    clear hqo'
    have hmq := Lib.hid hmq'
    clear hmq'
    obtain ⟨f1, f2, sf, fe, hf'⟩ := next_letters (nextP (a1, a2, sa) q (List.replicate 16 0))
    have hf := Lib.hid hf'
    clear hf'
    have hon := own_next hmy.out hqn.out hf.out
    have hfe := Lib.hid hon.1
    have hfl : sf.length ≤ 16 := hon.2.1
    have hfz := Lib.hid hon.2.2
    clear hon
    have hjn := Lib.hid (join_none hmy.out)
    refine wp_region_N [(0, 1), (1, 1), (2, 1), (3, 1), (4, 1)] (by kernel_rfl) ?_
    refine wpS_this [0, 1, 2] rfl (by kernel_rfl) (by simp only [pickL, nthL, List.cons_append, List.nil_append]; rfl) ?_
    repeat (go_big_quiet_step (fail))
    refine wpQuiet_nil ?_
    refine wpS_this [3] rfl (by kernel_rfl) (by simp only [pickL, nthL, List.cons_append, List.nil_append]; rfl) ?_
    repeat (go_big_quiet_step (fail))
    refine wpQuiet_nil ?_
    rw [hmq.out]
    refine wpS_this [4] rfl (by kernel_rfl) (by simp only [pickL, nthL, List.cons_append, List.nil_append]; rfl) ?_
    repeat (go_big_quiet_step (fail))
    refine wpQuiet_nil ?_
    refine wpS_nil ?_
    refine then_normal ?_
    refine wp_seq ?_
    refine wp_region_N [(0, 3), (1, 1)] (by kernel_rfl) ?_
    refine wpS_makeI (i := 0) (dd := 30) (n := 16) rfl (by rfl) rfl rfl rfl (by omega) HM43.out covS_nil rfl ?_
    rintro zb W47 hm46 -
    have HM48 := Lib.hid hm46
    clear hm46
    simp only [Act.put, List.setIfInBounds_toArray, List.set_cons_succ, List.set_cons_zero]
    refine wpS_this [1] rfl (by kernel_rfl) (by simp only [pickL, nthL, List.cons_append, List.nil_append]; rfl) ?_
    repeat (go_big_quiet_step (fail))
    refine wpQuiet_nil ?_
    refine wpS_nil ?_
    refine then_normal ?_
    refine wp_seq ?_
    refine wp_region_N [(0, 1), (1, 1), (2, 1), (3, 3), (4, 1), (5, 1), (6, 1), (7, 3), (8, 3), (9, 1)] (by kernel_rfl) ?_
    have Cb3 := Mem.cell HM48.out 3 rfl
    refine wpS_this [0, 1, 2] rfl (by kernel_rfl) (by simp only [pickL, nthL, List.cons_append, List.nil_append]; rfl) ?_
    repeat (go_big_quiet_step (fail))
    refine wpQuiet_nil ?_
    clear Cb3
    refine wpS_doesU3 (i := 3) (d := some 35) (rem := [_, _]) rfl (by rfl) rfl Try.call10 (DoesU.ofList (next_d (listT [_, _]) _ a1 a2 sa (srcL 0 rfl (srcOld ha)) la q _ (List.replicate 16 0) (srcL 1 rfl (srcInts List.length_replicate)) (by decide) f1 f2 sf fe hf.out)) rfl rfl rfl HM48.out [1, 0] rfl covS_nil (fun _ => rfl) rfl ?_
    rintro u51 W50 hm49 -
    obtain ⟨pf, cf, rfl, hm49q⟩ := Mem.next rfl hm49
    clear hm49
    have HM52 := Lib.hid hm49q
    clear hm49q
    simp only [Act.put, List.setIfInBounds_toArray, List.set_cons_succ, List.set_cons_zero]
    refine wpS_this [4, 5, 6] rfl (by kernel_rfl) (by simp only [pickL, nthL, List.cons_append, List.nil_append]; rfl) ?_
    repeat (go_big_quiet_step (fail))
    refine wpQuiet_nil ?_
    refine wpS_alloc (i := 7) (dd := 8) (z := .agg #[.int .i64 0, .int .i64 0, .slice none 0 0]) (cs := #[.int .i64 0, .int .i64 0, .slice none 0 0]) rfl (by rfl) rfl (by kernel_rfl) rfl HM52.out covS_nil rfl ?_
    rintro b55 W54 hm53 -
    have HM56 := Lib.hid hm53
    clear hm53
    simp only [Act.put, List.setIfInBounds_toArray, List.set_cons_succ, List.set_cons_zero]
    refine wpS_storeA (i := 8) (L2 := [_, _, _, _, _]) (cs' := [_, _, _]) rfl (by rfl) rfl rfl rfl (by kernel_rfl) (by rfl) HM56.out 0 rfl rfl rfl rfl covS_nil rfl ?_
    rintro W58 hm57 -
    have HM59 := Lib.hid hm57
    clear hm57
    refine wpS_this [9] rfl (by kernel_rfl) (by simp only [pickL, nthL, List.cons_append, List.nil_append]; rfl) ?_
    repeat (go_big_quiet_step (fail))
    refine wpQuiet_nil ?_
    refine wpS_nil ?_
    refine then_normal ?_
    refine wp_seq ?_
    refine wp_region_N [(0, 1), (1, 1), (2, 3), (3, 3), (4, 3)] (by kernel_rfl) ?_
    have Cb3 := Mem.cell HM59.out 5 rfl
    refine wpS_this [0, 1] rfl (by kernel_rfl) (by simp only [pickL, nthL, List.cons_append, List.nil_append]; rfl) ?_
    repeat (go_big_quiet_step (fail))
    refine wpQuiet_nil ?_
    clear Cb3
    refine wpS_doesU2 (i := 2) (d := some 40) (rem := [_, _, _, _, _]) rfl (by rfl) rfl Try.call17 (join_d (oldT W0) _ a1 a2 sa (srcOld ha) la (.slice none 0 0) 0 0 [] (srcNil _) (Nat.zero_le _) a1 a2 sa hjn.out) rfl rfl HM59.out [2] rfl covS_nil (fun _ => rfl) rfl ?_
    rintro u62 W61 hm60 -
    obtain ⟨pj, cj, rfl, hm60q⟩ := Mem.plan rfl hm60
    clear hm60
    have HM63 := Lib.hid hm60q
    clear hm60q
    simp only [Act.put, List.setIfInBounds_toArray, List.set_cons_succ, List.set_cons_zero]
    refine wpS_alloc (i := 3) (dd := 10) (z := .agg #[.int .i64 0, .int .i64 0, .slice none 0 0]) (cs := #[.int .i64 0, .int .i64 0, .slice none 0 0]) rfl (by rfl) rfl (by kernel_rfl) rfl HM63.out covS_nil rfl ?_
    rintro b66 W65 hm64 -
    have HM67 := Lib.hid hm64
    clear hm64
    simp only [Act.put, List.setIfInBounds_toArray, List.set_cons_succ, List.set_cons_zero]
    refine wpS_storeA (i := 4) (L2 := [_, _, _, _, _, _, _]) (cs' := [_, _, _]) rfl (by rfl) rfl rfl rfl (by kernel_rfl) (by rfl) HM67.out 0 rfl rfl rfl rfl covS_nil rfl ?_
    rintro W69 hm68 -
    have HM70 := Lib.hid hm68
    clear hm68
    refine wpS_nil ?_
    refine then_normal ?_
    refine wp_seq ?_
    refine wp_region_N [(0, 3), (1, 1), (2, 1), (3, 3), (4, 1)] (by kernel_rfl) ?_
    refine wpS_buildN elemI (i := 0) (dd := 41) (n := 0) (xs := []) (cs := #[]) rfl (by rfl) (fun _ => by kernel_rfl) rfl rfl HM70.out covS_nil rfl ?_
    rintro b73 W74 hm75 -
    have HM76 := Lib.hid hm75
    clear hm75
    simp only [Act.put, List.setIfInBounds_toArray, List.set_cons_succ, List.set_cons_zero]
    have Cb10 := Mem.cell HM76.out 1 rfl
    refine wpS_this [1, 2] rfl (by kernel_rfl) (by simp only [pickL, nthL, List.cons_append, List.nil_append]; rfl) ?_
    repeat (go_big_quiet_step (fail))
    refine wpQuiet_nil ?_
    clear Cb10
    refine wpS_append (E := elemI) (i := 3) (d := some 44) (L2 := [_, _, _, _, _, _, _, _]) rfl (by rfl) rfl HM76.out 0 rfl rfl ((HM76.out.src 2 rfl rowT_reads)) rfl (by show (0 + sa.length) * 8 ≤ _; omega) rfl covS_nil rfl ?_
    rintro v79 W80 hm81 -
    rw [List.nil_append] at hm81
    obtain ⟨pw, cw, rfl⟩ := row_form (Mem.src hm81 0 rfl rowT_reads)
    have HM82 := Lib.hid hm81
    clear hm81
    simp only [Act.put, List.setIfInBounds_toArray, List.set_cons_succ, List.set_cons_zero]
    refine wpS_this [4] rfl (by kernel_rfl) (by simp only [pickL, nthL, List.cons_append, List.nil_append]; rfl) ?_
    repeat (go_big_quiet_step (fail))
    refine wpQuiet_nil ?_
    refine wpS_nil ?_
    refine then_normal ?_
    refine wp_seq ?_
    refine wp_seq ?_
    refine wp_region_N [(0, 1), (1, 1), (2, 1), (3, 1)] (by kernel_rfl) ?_
    have Cb10 := Mem.cell HM82.out 1 rfl
    refine wpS_this [0, 1, 2, 3] rfl (by kernel_rfl) (by simp only [pickL, nthL, List.cons_append, List.nil_append]; rfl) ?_
    repeat (go_big_quiet_step (fail))
    refine wpQuiet_nil ?_
    clear Cb10
    refine wpS_nil ?_
    refine then_normal ?_
    refine wp_block ?_
    refine wp_loop_F [12, 48, 49, 50, 51, 52, 53, 54, 55, 56] (fun n vs W' => ∃ (k : Nat) (ys : List Int), n = sa.length - k ∧ vs 48 = .int .i64 (k : Int) ∧ k ≤ sa.length ∧ ys.length = sa.length ∧ Mem [rowT elemI (.slice pj sa.length cj) ys, rowT elemI (.slice pw sa.length cw) sa, boxT b66 (.cells #[.int .i64 a1, .int .i64 a2, .slice pj sa.length cj] 24 (0, 0)), boxT b55 (.cells #[.int .i64 f1, .int .i64 f2, .slice pf sf.length cf] 24 (0, 0)), boxT b3 (.cells #[.int .i64 a1, .int .i64 a2, .slice pa sa.length ca] 24 (0, 0)), rowT elemI (.slice pf sf.length cf) sf, intsT zb (List.replicate 16 0), oldT W0] H w W') (n0 := sa.length) ?_ ?_
    · exact ⟨0, sa, rfl, rfl, Nat.zero_le _, rfl, (Mem.only (M := [_, _, _, _, _, _, _, _]) HM82.out [2, 0, 0, 1, 4, 1, 1, 0] rfl)⟩
    rintro n vs W' ⟨k, ys, rfl, e48, hk, hyl', hm⟩
    simp only [putAll, List.map_cons, List.map_nil, Act.put, List.setIfInBounds_toArray, List.set_cons_succ, List.set_cons_zero]
    rw [e48]
    clear e48
    have hyl := Lib.hid hyl'
    clear hyl'
    have HM83 := Lib.hid hm
    clear hm
    refine wp_seq ?_
    refine wp_region_N [(0, 1)] (by kernel_rfl) ?_
    refine wpS_this [0] rfl (by kernel_rfl) (by simp only [pickL, nthL, List.cons_append, List.nil_append]; rfl) ?_
    repeat (go_big_quiet_step (fail))
    refine wpQuiet_nil ?_
    refine wpS_nil ?_
    refine then_normal ?_
    refine wp_seq ?_
    refine wp_cond_split rfl (fun h84 => ?_) (fun h84 => ?_)
    · have hk1 : k + 1 ≤ sa.length := by have : (k : Int) < ((sa.length : Nat) : Int) := (by simpa using h84); omega
      clear h84
      refine wp_skip ?_
      refine then_normal ?_
      refine wp_seq ?_
      refine wp_block ?_
      refine wp_seq ?_
      refine wp_region_N [(0, 1), (1, 1)] (by kernel_rfl) ?_
      refine wpS_this [0, 1] rfl (by kernel_rfl) (by simp only [pickL, nthL, List.cons_append, List.nil_append]; rfl) ?_
      repeat (go_big_quiet_step (fail))
      refine wpQuiet_nil ?_
      refine wpS_nil ?_
      refine then_normal ?_
      refine wp_region_N [(0, 1), (1, 1), (2, 1), (3, 1), (4, 1), (5, 3)] (by kernel_rfl) ?_
      have Cb10 := Mem.cell HM83.out 2 rfl
      refine wpS_this [0, 1, 2, 3] rfl (by kernel_rfl) (by simp only [pickL, nthL, List.cons_append, List.nil_append]; rfl) ?_
      repeat (go_big_quiet_step (fail))
      refine wpQuiet_nil ?_
      clear Cb10
      refine wpS_addrRow (i := 4) (d := some 55) rfl (by rfl) rfl rfl rfl HM83.out 0 rfl (by have := hyl.out; omega) rfl ?_
      intro ab85 hp86
      replace hp86 := Lib.hid hp86
      simp only [Act.put, List.setIfInBounds_toArray, List.set_cons_succ, List.set_cons_zero]
      refine wpS_setRow (i := 5) (L2 := [_, _, _, _, _, _, _]) rfl (by rfl) rfl rfl rfl HM83.out 0 rfl hp86.out rfl (by have := hyl.out; omega) covS_nil rfl ?_
      rintro W88 hm87 -
      have HM89 := Lib.hid hm87
      clear hm87
      refine wpS_nil ?_
      refine block_normal ?_
      refine then_normal ?_
      refine wp_region_N [(0, 1), (1, 1)] (by kernel_rfl) ?_
      refine wpS_this [0, 1] rfl (by kernel_rfl) (by simp only [pickL, nthL, List.cons_append, List.nil_append]; rfl) ?_
      repeat (go_big_quiet_step (fail))
      refine wpQuiet_nil ?_
      refine wpS_nil ?_
      refine then_normal ?_
      refine ⟨by kernel_rfl, ?_⟩
      refine ⟨sa.length - (k + 1), by omega, k + 1, ys.set k x, rfl, rfl, hk1, by rw [List.length_set]; exact hyl.out, (Mem.only (M := [_, _, _, _, _, _, _, _]) HM89.out [0, 0, 0, 0, 0, 0, 0, 0] rfl)⟩
    · clear h84
      refine wp_exit ?_
      refine then_exit (then_exit (block_exit ?_))
      refine then_normal ?_
      refine wp_seq ?_
      refine wp_seq ?_
      refine wp_region_N [(0, 1), (1, 1), (2, 1)] (by kernel_rfl) ?_
      refine wpS_this [0, 1, 2] rfl (by kernel_rfl) (by simp only [pickL, nthL, List.cons_append, List.nil_append]; rfl) ?_
      repeat (go_big_quiet_step (fail))
      refine wpQuiet_nil ?_
      refine wpS_nil ?_
      refine then_normal ?_
      refine wp_block ?_
      refine wp_loop_F [13, 59, 60, 61, 62, 63, 64, 65, 66] (fun n ws W' => ∃ (i : Nat) (zs : List Int), n = 16 - i ∧ ws 59 = .int .i64 (i : Int) ∧ i ≤ 16 ∧ zs.length = 16 ∧ Mem [rowT elemI (.slice pj sa.length cj) ys, rowT elemI (.slice pw sa.length cw) sa, boxT b66 (.cells #[.int .i64 a1, .int .i64 a2, .slice pj sa.length cj] 24 (0, 0)), boxT b55 (.cells #[.int .i64 f1, .int .i64 f2, .slice pf sf.length cf] 24 (0, 0)), boxT b3 (.cells #[.int .i64 a1, .int .i64 a2, .slice pa sa.length ca] 24 (0, 0)), rowT elemI (.slice pf sf.length cf) sf, intsT zb zs, oldT W0] H w W') (n0 := 16) ?_ ?_
      · exact ⟨0, _, rfl, rfl, Nat.zero_le _, List.length_replicate, (Mem.only (M := [_, _, _, _, _, _, _, _]) HM83.out [0, 0, 0, 0, 0, 0, 0, 0] rfl)⟩
      rintro n ws W' ⟨i, zs, rfl, e59, hi, hzl', hm2⟩
      simp only [putAll, List.map_cons, List.map_nil, Act.put, List.setIfInBounds_toArray, List.set_cons_succ, List.set_cons_zero]
      rw [e59]
      clear e59
      have hzl := Lib.hid hzl'
      clear hzl'
      have HM90 := Lib.hid hm2
      clear hm2
      refine wp_seq ?_
      refine wp_region_N [(0, 1)] (by kernel_rfl) ?_
      refine wpS_this [0] rfl (by kernel_rfl) (by simp only [pickL, nthL, List.cons_append, List.nil_append]; rfl) ?_
      repeat (go_big_quiet_step (fail))
      refine wpQuiet_nil ?_
      refine wpS_nil ?_
      refine then_normal ?_
      refine wp_seq ?_
      refine wp_cond_split rfl (fun h91 => ?_) (fun h91 => ?_)
      · have hi1 : i + 1 ≤ 16 := by have : (i : Int) < 16 := (by simpa using h91); omega
        clear h91
        refine wp_skip ?_
        refine then_normal ?_
        refine wp_seq ?_
        refine wp_block ?_
        refine wp_seq ?_
        refine wp_region_N [(0, 1), (1, 1)] (by kernel_rfl) ?_
        refine wpS_this [0, 1] rfl (by kernel_rfl) (by simp only [pickL, nthL, List.cons_append, List.nil_append]; rfl) ?_
        repeat (go_big_quiet_step (fail))
        refine wpQuiet_nil ?_
        refine wpS_nil ?_
        refine then_normal ?_
        refine wp_region_N [(0, 1), (1, 1), (2, 1), (3, 1), (4, 3)] (by kernel_rfl) ?_
        refine wpS_this [0, 1, 2] rfl (by kernel_rfl) (by simp only [pickL, nthL, List.cons_append, List.nil_append]; rfl) ?_
        repeat (go_big_quiet_step (fail))
        refine wpQuiet_nil ?_
        refine wpS_addrI (i := 3) (d := some 65) rfl (by rfl) rfl rfl rfl (by omega) rfl ?_
        simp only [Act.put, List.setIfInBounds_toArray, List.set_cons_succ, List.set_cons_zero]
        refine wpS_setI (i := 4) (L2 := [_, _, _, _, _, _, _]) rfl (by rfl) rfl rfl rfl HM90.out 6 rfl rfl (by have := hzl.out; omega) covS_nil rfl ?_
        rintro W93 hm92 -
        have HM94 := Lib.hid hm92
        clear hm92
        refine wpS_nil ?_
        refine block_normal ?_
        refine then_normal ?_
        refine wp_region_N [(0, 1), (1, 1)] (by kernel_rfl) ?_
        refine wpS_this [0, 1] rfl (by kernel_rfl) (by simp only [pickL, nthL, List.cons_append, List.nil_append]; rfl) ?_
        repeat (go_big_quiet_step (fail))
        refine wpQuiet_nil ?_
        refine wpS_nil ?_
        refine then_normal ?_
        refine ⟨by kernel_rfl, ?_⟩
        refine ⟨16 - (i + 1), by omega, i + 1, zs.set i x, rfl, rfl, hi1, by rw [List.length_set]; exact hzl.out, (Mem.only (M := [_, _, _, _, _, _, _, _]) HM94.out [1, 1, 1, 1, 1, 1, 0, 0] rfl)⟩
      · clear h91
        refine wp_exit ?_
        refine then_exit (then_exit (block_exit ?_))
        refine then_normal ?_
        refine wp_seq ?_
        refine wp_seq ?_
        refine wp_region_N [(0, 1), (1, 1), (2, 1), (3, 1)] (by kernel_rfl) ?_
        have Cb8 := Mem.cell HM90.out 3 rfl
        refine wpS_this [0, 1, 2, 3] rfl (by kernel_rfl) (by simp only [pickL, nthL, List.cons_append, List.nil_append]; rfl) ?_
        repeat (go_big_quiet_step (fail))
        refine wpQuiet_nil ?_
        clear Cb8
        refine wpS_nil ?_
        refine then_normal ?_
        refine wp_block ?_
        refine wp_loop_F [6, 14, 15, 70, 71, 72, 73, 74, 75, 76, 77, 78, 79, 80, 81, 82, 83, 84, 85] (fun n us W' => ∃ (m : Nat), n = sf.length - m ∧ us 70 = .int .i64 (m : Int) ∧ m ≤ sf.length ∧ Mem [rowT elemI (.slice pj sa.length cj) ys, rowT elemI (.slice pw sa.length cw) sa, boxT b66 (.cells #[.int .i64 a1, .int .i64 a2, .slice pj sa.length cj] 24 (0, 0)), boxT b55 (.cells #[.int .i64 f1, .int .i64 f2, .slice pf sf.length cf] 24 (0, 0)), boxT b3 (.cells #[.int .i64 a1, .int .i64 a2, .slice pa sa.length ca] 24 (0, 0)), rowT elemI (.slice pf sf.length cf) sf, intsT zb zs, oldT W0] H w W') (n0 := sf.length) ?_ ?_
        · exact ⟨0, rfl, rfl, Nat.zero_le _, (Mem.only (M := [_, _, _, _, _, _, _, _]) HM90.out [0, 0, 0, 0, 0, 0, 0, 0] rfl)⟩
        rintro n us W' ⟨m, rfl, e70, hm0, hm3⟩
        simp only [putAll, List.map_cons, List.map_nil, Act.put, List.setIfInBounds_toArray, List.set_cons_succ, List.set_cons_zero]
        rw [e70]
        clear e70
        have HM95 := Lib.hid hm3
        clear hm3
        refine wp_seq ?_
        refine wp_region_N [(0, 1)] (by kernel_rfl) ?_
        refine wpS_this [0] rfl (by kernel_rfl) (by simp only [pickL, nthL, List.cons_append, List.nil_append]; rfl) ?_
        repeat (go_big_quiet_step (fail))
        refine wpQuiet_nil ?_
        refine wpS_nil ?_
        refine then_normal ?_
        refine wp_seq ?_
        refine wp_cond_split rfl (fun h96 => ?_) (fun h96 => ?_)
        · have hm1 : m + 1 ≤ sf.length := by have : (m : Int) < ((sf.length : Nat) : Int) := (by simpa using h96); omega
          clear h96
          obtain ⟨y, hy'⟩ : ∃ y, sf[m]? = some y := ⟨_, List.getElem?_eq_getElem (hm1)⟩
          have hy := Lib.hid hy'
          clear hy'
          have hy0 := hfz.out m y hy.out
          have gy : (y != 0) = false := by simp [hy0.1]
          have hm16 : m < 16 := hy0.2
          have gm : decide ((16 : Int) ≤ (m : Int)) = false := decide_eq_false (by omega)
          have gm' : decide (16 ≤ m) = false := decide_eq_false (by omega)
          clear hy0
          refine wp_skip ?_
          refine then_normal ?_
          refine wp_seq ?_
          refine wp_block ?_
          refine wp_seq ?_
          refine wp_region_N [(0, 1), (1, 1), (2, 1), (3, 1), (4, 1)] (by kernel_rfl) ?_
          refine wpS_this [0] rfl (by kernel_rfl) (by simp only [pickL, nthL, List.cons_append, List.nil_append]; rfl) ?_
          repeat (go_big_quiet_step (fail))
          refine wpQuiet_nil ?_
          refine wpS_index (E := elemI) (i := 1) (d := some 73) rfl (by rfl) rfl rfl rfl (HM95.out.row 5 rfl rowOwn) (hy.out) rfl ?_
          intro eb97 eo98 hc99
          simp only [Act.put, List.setIfInBounds_toArray, List.set_cons_succ, List.set_cons_zero]
          refine wpS_load1 (i := 2) (d := some 74) (u := .int .i64 y) rfl (by rfl) rfl rfl (hc99 0 _ rfl) Try.underlying3 rfl rfl ?_
          simp only [Act.put, List.setIfInBounds_toArray, List.set_cons_succ, List.set_cons_zero]
          refine wpS_this [3, 4] rfl (by kernel_rfl) (by simp only [pickL, nthL, List.cons_append, List.nil_append]; rfl) ?_
          repeat (go_big_quiet_step (fail))
          refine wpQuiet_nil ?_
          refine wpS_nil ?_
          refine then_normal ?_
          refine wp_seq ?_
          by_cases hfz : fe = 0
          · have gf : (fe == 0) = true := beq_iff_eq.2 hfz
            clear hfz
            refine wp_region_N [(0, 1), (1, 1), (2, 1), (3, 1), (4, 1), (5, 1), (6, 1), (7, 1), (8, 1), (9, 1)] (by kernel_rfl) ?_
            refine wpS_this [0, 1, 2, 3, 4, 5, 6, 7, 8, 9] rfl (by kernel_rfl) (by simp only [pickL, nthL, List.cons_append, List.nil_append]; rfl) ?_
            repeat (go_big_quiet_step (fail))
            refine wpQuiet_nil ?_
            refine wpS_nil ?_
            refine then_normal ?_
            refine wp_cond_false rfl ?_
            refine wp_skip ?_
            refine block_normal ?_
            refine then_normal ?_
            refine wp_region_N [(0, 1), (1, 1)] (by kernel_rfl) ?_
            refine wpS_this [0, 1] rfl (by kernel_rfl) (by simp only [pickL, nthL, List.cons_append, List.nil_append]; rfl) ?_
            repeat (go_big_quiet_step (fail))
            refine wpQuiet_nil ?_
            refine wpS_nil ?_
            refine then_normal ?_
            refine ⟨by kernel_rfl, ?_⟩
            refine ⟨sf.length - (m + 1), by omega, m + 1, rfl, rfl, hm1, (Mem.only (M := [_, _, _, _, _, _, _, _]) HM95.out [0, 0, 0, 0, 0, 0, 0, 0] rfl)⟩
          · have gf : (fe == 0) = false := beq_eq_false_iff_ne.2 hfz
            clear hfz
            refine wp_region_N [(0, 1), (1, 1), (2, 1), (3, 1), (4, 1), (5, 1), (6, 1), (7, 1), (8, 1), (9, 1)] (by kernel_rfl) ?_
            refine wpS_this [0, 1, 2, 3, 4, 5, 6, 7, 8, 9] rfl (by kernel_rfl) (by simp only [pickL, nthL, List.cons_append, List.nil_append]; rfl) ?_
            repeat (go_big_quiet_step (fail))
            refine wpQuiet_nil ?_
            refine wpS_nil ?_
            refine then_normal ?_
            refine wp_cond_false rfl ?_
            refine wp_skip ?_
            refine block_normal ?_
            refine then_normal ?_
            refine wp_region_N [(0, 1), (1, 1)] (by kernel_rfl) ?_
            refine wpS_this [0, 1] rfl (by kernel_rfl) (by simp only [pickL, nthL, List.cons_append, List.nil_append]; rfl) ?_
            repeat (go_big_quiet_step (fail))
            refine wpQuiet_nil ?_
            refine wpS_nil ?_
            refine then_normal ?_
            refine ⟨by kernel_rfl, ?_⟩
            refine ⟨sf.length - (m + 1), by omega, m + 1, rfl, rfl, hm1, (Mem.only (M := [_, _, _, _, _, _, _, _]) HM95.out [0, 0, 0, 0, 0, 0, 0, 0] rfl)⟩
        · clear h96
          refine wp_exit ?_
          refine then_exit (then_exit (block_exit ?_))
          refine then_normal ?_
          refine wp_seq ?_
          rcases hfe.out with hfz | ⟨hfz, ha1⟩
          · have gf : (fe == 0) = true := beq_iff_eq.2 hfz
            clear hfz
            refine wp_region_M (fun k => k ∈ ([b3] : List Nat)) [(0, 1), (1, 1), (3, 0), (4, 2), (5, 0), (6, 2), (7, 0), (8, 0), (2, 3), (9, 3), (10, 1), (11, 1), (12, 1), (13, 1), (14, 1), (15, 1), (16, 1), (17, 1), (18, 1), (19, 1), (20, 1), (21, 1), (22, 1), (23, 1), (24, 3), (25, 1), (26, 1)] (by kernel_rfl) (by kernel_rfl) HM95.out ?_
            intro W100 hm101
            have HM102 := Lib.hid hm101
            clear hm101
            have Cb3 := Mem.cell HM102.out 4 rfl
            refine wpS_this [0, 1] rfl (by kernel_rfl) (by simp only [pickL, nthL, List.cons_append, List.nil_append]; rfl) ?_
            repeat (go_big_quiet_step (fail))
            refine wpQuiet_nil ?_
            clear Cb3
            refine wpS_all [3] rfl (by kernel_rfl) (by simp only [pickL, nthL, List.cons_append, List.nil_append]; rfl) ?_
            repeat (go_big_quiet_step (fail))
            refine wpQuiet_nil ?_
            have Cb3 := Mem.cell HM102.out 4 rfl
            refine wpS_stay [4] rfl (by kernel_rfl) (by simp only [pickL, nthL, List.cons_append, List.nil_append]; rfl) ?_
            repeat (go_big_quiet_step (fail))
            refine wpQuiet_nil ?_
            clear Cb3
            refine wpS_all [5] rfl (by kernel_rfl) (by simp only [pickL, nthL, List.cons_append, List.nil_append]; rfl) ?_
            repeat (go_big_quiet_step (fail))
            refine wpQuiet_nil ?_
            have Cb3 := Mem.cell HM102.out 4 rfl
            refine wpS_stay [6] rfl (by kernel_rfl) (by simp only [pickL, nthL, List.cons_append, List.nil_append]; rfl) ?_
            repeat (go_big_quiet_step (fail))
            refine wpQuiet_nil ?_
            clear Cb3
            refine wpS_all [7, 8] rfl (by kernel_rfl) (by simp only [pickL, nthL, List.cons_append, List.nil_append]; rfl) ?_
            repeat (go_big_quiet_step (fail))
            refine wpQuiet_nil ?_
            refine wpS_doesU2 (i := 2) (d := some 88) (rem := [_, _, _, _, _, _, _]) rfl (by rfl) rfl Try.call17 (join_d (oldT W0) _ a1 a2 sa (srcOld ha) la (.slice none 0 0) 0 0 [] (srcNil _) (Nat.zero_le _) a1 a2 sa hjn.out) rfl rfl HM102.out [7] rfl (covS_box 4 rfl covS_nil) (fun _ => rfl) rfl ?_
            rintro u106 W104 hm103 hg105
            obtain ⟨pk, ck, rfl, hm103q⟩ := Mem.plan rfl hm103
            clear hm103
            have HM107 := Lib.hid hm103q
            clear hm103q
            simp only [Act.put, List.setIfInBounds_toArray, List.set_cons_succ, List.set_cons_zero]
            refine wpS_does2 (i := 9) (d := some 95) (rem := [_, _, _, _, _, _, _]) (out := [_, _, _, _, _, _, _, _, _]) rfl (by rfl) rfl Try.call16 (Does.ofList (same_d (listT [_, _]) _ a1 a2 sa (srcL 0 rfl rowT_reads) la _ a1 a2 sa (srcL 1 rfl rowT_reads) la)) rfl rfl HM107.out [0, 2] rfl (covS_box 4 rfl covS_nil) rfl rfl ?_
            rintro W109 hm108 hg110
            rw [same_self]
            have HM111 := Lib.hid hm108
            clear hm108
            simp only [Act.put, List.setIfInBounds_toArray, List.set_cons_succ, List.set_cons_zero]
            have Cb3 := Mem.cell HM111.out 6 rfl
            refine wpS_this [10, 11, 12, 13, 14, 15, 16, 17, 18, 19, 20, 21, 22, 23] rfl (by kernel_rfl) (by simp only [pickL, nthL, List.cons_append, List.nil_append]; rfl) ?_
            repeat (go_big_quiet_step (fail))
            refine wpQuiet_nil ?_
            clear Cb3
            refine wpS_does0 (i := 24) (d := some 110) (rem := [_, _, _, _, _, _, _, _, _]) (out := [_, _, _, _, _, _, _, _, _]) rfl (by rfl) rfl Try.call9 (awake_d)  HM111.out [] rfl (covS_box 6 rfl covS_nil) rfl rfl ?_
            rintro W113 hm112 hg114
            have HM115 := Lib.hid hm112
            clear hm112
            simp only [Act.put, List.setIfInBounds_toArray, List.set_cons_succ, List.set_cons_zero]
            refine wpS_this [25, 26] rfl (by kernel_rfl) (by simp only [pickL, nthL, List.cons_append, List.nil_append]; rfl) ?_
            repeat (go_big_quiet_step (fail))
            refine wpQuiet_nil ?_
            refine wpS_nil ?_
            refine then_normal ?_
            refine wp_ret ?_
            refine bodyPost_ret (results_tmp rfl _ _ _) rfl ?_
            exact does_ret (Mem.only (M := [_]) HM115.out [2] rfl) rfl rfl
          · have gf : (fe == 0) = false := beq_eq_false_iff_ne.2 (by omega)
            have gf6 : (fe == 6) = true := beq_iff_eq.2 hfz
            have gM : (a1 == 1000000) = true := beq_iff_eq.2 ha1
            clear hfz ha1
            refine wp_region_M (fun k => k ∈ ([b3] : List Nat)) [(0, 1), (1, 1), (3, 0), (4, 2), (5, 0), (6, 2), (7, 0), (8, 0), (2, 3), (9, 3), (10, 1), (11, 1), (12, 1), (13, 1), (14, 1), (15, 1), (16, 1), (17, 1), (18, 1), (19, 1), (20, 1), (21, 1), (22, 1), (23, 1), (24, 3), (25, 1), (26, 1)] (by kernel_rfl) (by kernel_rfl) HM95.out ?_
            intro W116 hm117
            have HM118 := Lib.hid hm117
            clear hm117
            have Cb3 := Mem.cell HM118.out 4 rfl
            refine wpS_this [0, 1] rfl (by kernel_rfl) (by simp only [pickL, nthL, List.cons_append, List.nil_append]; rfl) ?_
            repeat (go_big_quiet_step (fail))
            refine wpQuiet_nil ?_
            clear Cb3
            refine wpS_all [3] rfl (by kernel_rfl) (by simp only [pickL, nthL, List.cons_append, List.nil_append]; rfl) ?_
            repeat (go_big_quiet_step (fail))
            refine wpQuiet_nil ?_
            have Cb3 := Mem.cell HM118.out 4 rfl
            refine wpS_stay [4] rfl (by kernel_rfl) (by simp only [pickL, nthL, List.cons_append, List.nil_append]; rfl) ?_
            repeat (go_big_quiet_step (fail))
            refine wpQuiet_nil ?_
            clear Cb3
            refine wpS_all [5] rfl (by kernel_rfl) (by simp only [pickL, nthL, List.cons_append, List.nil_append]; rfl) ?_
            repeat (go_big_quiet_step (fail))
            refine wpQuiet_nil ?_
            have Cb3 := Mem.cell HM118.out 4 rfl
            refine wpS_stay [6] rfl (by kernel_rfl) (by simp only [pickL, nthL, List.cons_append, List.nil_append]; rfl) ?_
            repeat (go_big_quiet_step (fail))
            refine wpQuiet_nil ?_
            clear Cb3
            refine wpS_all [7, 8] rfl (by kernel_rfl) (by simp only [pickL, nthL, List.cons_append, List.nil_append]; rfl) ?_
            repeat (go_big_quiet_step (fail))
            refine wpQuiet_nil ?_
            refine wpS_doesU2 (i := 2) (d := some 88) (rem := [_, _, _, _, _, _, _]) rfl (by rfl) rfl Try.call17 (join_d (oldT W0) _ a1 a2 sa (srcOld ha) la (.slice none 0 0) 0 0 [] (srcNil _) (Nat.zero_le _) a1 a2 sa hjn.out) rfl rfl HM118.out [7] rfl (covS_box 4 rfl covS_nil) (fun _ => rfl) rfl ?_
            rintro u122 W120 hm119 hg121
            obtain ⟨pk, ck, rfl, hm119q⟩ := Mem.plan rfl hm119
            clear hm119
            have HM123 := Lib.hid hm119q
            clear hm119q
            simp only [Act.put, List.setIfInBounds_toArray, List.set_cons_succ, List.set_cons_zero]
            refine wpS_does2 (i := 9) (d := some 95) (rem := [_, _, _, _, _, _, _]) (out := [_, _, _, _, _, _, _, _, _]) rfl (by rfl) rfl Try.call16 (Does.ofList (same_d (listT [_, _]) _ a1 a2 sa (srcL 0 rfl rowT_reads) la _ a1 a2 sa (srcL 1 rfl rowT_reads) la)) rfl rfl HM123.out [0, 2] rfl (covS_box 4 rfl covS_nil) rfl rfl ?_
            rintro W125 hm124 hg126
            rw [same_self]
            have HM127 := Lib.hid hm124
            clear hm124
            simp only [Act.put, List.setIfInBounds_toArray, List.set_cons_succ, List.set_cons_zero]
            have Cb3 := Mem.cell HM127.out 6 rfl
            refine wpS_this [10, 11, 12, 13, 14, 15, 16, 17, 18, 19, 20, 21, 22, 23] rfl (by kernel_rfl) (by simp only [pickL, nthL, List.cons_append, List.nil_append]; rfl) ?_
            repeat (go_big_quiet_step (fail))
            refine wpQuiet_nil ?_
            clear Cb3
            refine wpS_does0 (i := 24) (d := some 110) (rem := [_, _, _, _, _, _, _, _, _]) (out := [_, _, _, _, _, _, _, _, _]) rfl (by rfl) rfl Try.call9 (awake_d)  HM127.out [] rfl (covS_box 6 rfl covS_nil) rfl rfl ?_
            rintro W129 hm128 hg130
            have HM131 := Lib.hid hm128
            clear hm128
            simp only [Act.put, List.setIfInBounds_toArray, List.set_cons_succ, List.set_cons_zero]
            refine wpS_this [25, 26] rfl (by kernel_rfl) (by simp only [pickL, nthL, List.cons_append, List.nil_append]; rfl) ?_
            repeat (go_big_quiet_step (fail))
            refine wpQuiet_nil ?_
            refine wpS_nil ?_
            refine then_normal ?_
            refine wp_ret ?_
            refine bodyPost_ret (results_tmp rfl _ _ _) rfl ?_
            exact does_ret (Mem.only (M := [_]) HM131.out [2] rfl) rfl rfl

end Go.Proofs.Ytcdhipflfnafaaa
