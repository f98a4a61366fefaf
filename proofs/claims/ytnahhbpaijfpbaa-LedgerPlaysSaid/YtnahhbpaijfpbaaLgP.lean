/- Ledgers: LedgerPlays. -/
import Derived.Test.YtnahhbpaijfpbaaLgU
namespace Go.Proofs.Ytnahhbpaijfpbaa
open Go Go.RowKit Go.BigFrame

section
variable {L pre post rem : List At} {H0 S : Nat → Prop} {w W : World} {ops : Array Oper} {Q : Act → World → Prop} {rest : List (Nat × Nat)} {a : Act} {i : Nat} {o : Oper} {d : Option Tmp}
theorem Mem.oldBlock {W0 : World} (h : Mem L H0 w W) (i : Nat) (hi : L[i]? = some (oldT W0)) {k : Nat} (hk : k < W0.heap.size) : W.heap[k]? = W0.heap[k]? := h.have i hi fun _ h => OldA.block h hk
theorem Mem.oldPart {W0 : World} (h : Mem L H0 w W) (i : Nat) (hi : L[i]? = some (oldT W0)) {b off : Nat} {cells : List Value} (hb : b < W0.heap.size) (hc : ∀ k u, cells[k]? = some u → W0.cell? ⟨b, off + k, none⟩ = some u) : ∀ k u, cells[k]? = some u → W.cell? ⟨b, off + k, none⟩ = some u := fun k u hk => by
  have := hc k u hk
  unfold World.cell? at this ⊢
  rwa [h.oldBlock i hi hb]
theorem gk_old {out : List At} {W0 W' : World} {b : Nat} {bs : List Nat} (hb : b < W0.heap.size) (h1 : Mem L H0 w W) (i1 : Nat) (hi1 : L[i1]? = some (oldT W0)) (h2 : Mem out H0 w W') (i2 : Nat) (hi2 : out[i2]? = some (oldT W0)) (h : GK (fun k => k ∈ bs) W W') : GK (fun k => k ∈ b :: bs) W W' := by
  obtain ⟨x, rfl⟩ := h
  exact ⟨⟨x.w, x.os, x.tape, x.output, x.size, fun k hk => by
    rcases List.mem_cons.1 hk with rfl | hk
    · exact (h2.oldBlock i2 hi2 hb).trans (h1.oldBlock i1 hi1 hb).symm
    · exact x.block k hk⟩, rfl⟩
theorem wpS_doesO1 {W0 : World} {b : Nat} {bs : List Nat} {f : Nat} {x0 : Operand} {v0 : Value} {ts : Array TypeId} {v : Value} {out : List At} (hi : ops[i]? = some o) (hw : Region.wanted o (yielded ops a.tmps) = true) (ho : o.op = .call { callee := .value (.func f), args := #[x0], argTypes := ts }) (eg : ∀ args w, (callFunc f args).run Try.prog w = .ok (.enter f args) w)
    (hc : Does Try.prog f #[v0] pre v post) (h0 : a.eval x0 = v0) (hm : Mem L H0 w W) (idx : List Nat) (hsel : selA L idx = (pre, rem)) (hS : CovS rem fun k => k ∈ bs) (hout : post ++ rem = out) (i1 i2 : Nat) (hb : b < W0.heap.size) (hb1 : L[i1]? = some (oldT W0)) (hb2 : out[i2]? = some (oldT W0)) (hd : o.dst = d) (h : ∀ W', Mem out H0 w W' → GK (fun k => k ∈ b :: bs) W W' → wpS Try.prog ops (fun k => k ∈ b :: bs) Q rest (a.put d v) W') : wpS Try.prog ops (fun k => k ∈ b :: bs) Q ((i, 3) :: rest) a W :=
  wpS_enter hi hw (run_call ho eg (by simp [h0])) (R := fun u W' => u = v ∧ Mem out H0 w W' ∧ GK (fun k => k ∈ b :: bs) W W') ((hc.mem hm idx hsel hS).mono fun e W' ⟨he, h1, h2⟩ => ⟨v, he, rfl, hout ▸ h1, gk_old hb hm i1 hb1 (hout ▸ h1) i2 hb2 h2⟩) (fun _ _ h => h.2.2) hd fun u W' ⟨hu, h1, h2⟩ => by subst hu; exact h W' h1 h2
theorem wpS_doesO2 {W0 : World} {b : Nat} {bs : List Nat} {f : Nat} {x0 x1 : Operand} {v0 v1 : Value} {ts : Array TypeId} {v : Value} {out : List At} (hi : ops[i]? = some o) (hw : Region.wanted o (yielded ops a.tmps) = true) (ho : o.op = .call { callee := .value (.func f), args := #[x0, x1], argTypes := ts }) (eg : ∀ args w, (callFunc f args).run Try.prog w = .ok (.enter f args) w)
    (hc : Does Try.prog f #[v0, v1] pre v post) (h0 : a.eval x0 = v0) (h1 : a.eval x1 = v1) (hm : Mem L H0 w W) (idx : List Nat) (hsel : selA L idx = (pre, rem)) (hS : CovS rem fun k => k ∈ bs) (hout : post ++ rem = out) (i1 i2 : Nat) (hb : b < W0.heap.size) (hb1 : L[i1]? = some (oldT W0)) (hb2 : out[i2]? = some (oldT W0)) (hd : o.dst = d) (h : ∀ W', Mem out H0 w W' → GK (fun k => k ∈ b :: bs) W W' → wpS Try.prog ops (fun k => k ∈ b :: bs) Q rest (a.put d v) W') : wpS Try.prog ops (fun k => k ∈ b :: bs) Q ((i, 3) :: rest) a W :=
  wpS_enter hi hw (run_call ho eg (by simp [h0, h1])) (R := fun u W' => u = v ∧ Mem out H0 w W' ∧ GK (fun k => k ∈ b :: bs) W W') ((hc.mem hm idx hsel hS).mono fun e W' ⟨he, h1, h2⟩ => ⟨v, he, rfl, hout ▸ h1, gk_old hb hm i1 hb1 (hout ▸ h1) i2 hb2 h2⟩) (fun _ _ h => h.2.2) hd fun u W' ⟨hu, h1, h2⟩ => by subst hu; exact h W' h1 h2
end
theorem first_at {W0 : World} {v : Value} {l : List CallL} {y : CallL} (h : RowAt elemL W0 v l) (h0 : l[0]? = some y) : ∃ b o c, v = .slice (some ⟨b, o, none⟩) l.length c ∧ b < W0.heap.size ∧ ∀ k u, (y.x.enc)[k]? = some u → W0.cell? ⟨b, o + 2 + k, none⟩ = some u := by
  rcases h with ⟨rfl, _⟩ | ⟨b, o, c, hv, hb, hc⟩
  · simp at h0
  · refine ⟨b, o, c, hv, hb, fun k u hk => ?_⟩
    have := hc 0 y h0 (2 + k) u (sub_app [_, _] _ [] hk)
    rw [Nat.zero_mul, Nat.add_zero, ← Nat.add_assoc] at this
    exact this
set_option maxHeartbeats 4000000 in
set_option maxRecDepth 100000 in
theorem plays_d (W0 : World) (room : Int) (v : Value) (l : List CallL) (hR' : ∀ W H, (oldT W0).p W H → RowAt elemL W v l) (hQ' : ∀ y ∈ l, DdQ W0 y.x ∧ y.x.d.b.v.length ≤ 4398046510976) : Does Try.prog 3 #[.int .i64 room, v] [oldT W0] (.bool true) [oldT W0] := by
  intro w H hp
  have HM0 := Lib.hid (mem_refl hp)
  clear hp
  obtain ⟨p, cap, rfl, -⟩ := (HM0.out.row 0 rfl hR').form
  have hrow := Lib.hid (hR' W0 _ (oldA_self W0))
  have hlx : Hid (∀ y ∈ l, DxL (oldT W0) y.x) := Lib.hid (fun y hy => ⟨vOld (hQ' y hy).1.1, (hQ' y hy).2, srcOld (hQ' y hy).1.2⟩)
  have hR := Lib.hid hR'
  clear hR'
  have hQ := Lib.hid hQ'
  clear hQ'
  go_enter Try.func3, Try.ntmps3
  refine wp_seq ?_
  refine wp_region_N [(0, 1)] (by kernel_rfl) ?_
  refine wpS_this [0] rfl (by kernel_rfl) (by simp only [pickL, nthL, List.cons_append, List.nil_append]; rfl) ?_
  repeat (go_big_quiet_step (fail))
  refine wpQuiet_nil ?_
  refine wpS_nil ?_
  refine then_normal ?_
  refine wp_seq ?_
  refine wp_seq ?_
  cases hl' : litL l
  · have hl := Lib.hid hl'
    clear hl'
    refine wp_region_N [(0, 1), (1, 3), (2, 1)] (by kernel_rfl) ?_
    refine wpS_this [0] rfl (by kernel_rfl) (by simp only [pickL, nthL, List.cons_append, List.nil_append]; rfl) ?_
    repeat (go_big_quiet_step (fail))
    refine wpQuiet_nil ?_
    refine wpS_does1 (i := 1) (d := some 11) (rem := []) (out := [_]) rfl (by rfl) rfl Try.call8 (light_d (oldT W0) _ l hR.out hlx.out) rfl HM0.out [0] rfl covS_nil rfl rfl ?_
    rintro W2 hm1 -
    rw [hl.out]
    have HM3 := Lib.hid hm1
    clear hm1
    simp only [Act.put, List.setIfInBounds_toArray, List.set_cons_succ, List.set_cons_zero]
    refine wpS_this [2] rfl (by kernel_rfl) (by simp only [pickL, nthL, List.cons_append, List.nil_append]; rfl) ?_
    repeat (go_big_quiet_step (fail))
    refine wpQuiet_nil ?_
    refine wpS_nil ?_
    refine then_normal ?_
    refine wp_cond_true rfl ?_
    refine wp_seq ?_
    refine wp_region_N [(0, 3), (1, 1)] (by kernel_rfl) ?_
    refine wpS_does0 (i := 0) (d := some 13) (rem := [_]) (out := [_]) rfl (by rfl) rfl Try.call9 (awake_d)  HM3.out [] rfl covS_nil rfl rfl ?_
    rintro W5 hm4 -
    have HM6 := Lib.hid hm4
    clear hm4
    simp only [Act.put, List.setIfInBounds_toArray, List.set_cons_succ, List.set_cons_zero]
    refine wpS_this [1] rfl (by kernel_rfl) (by simp only [pickL, nthL, List.cons_append, List.nil_append]; rfl) ?_
    repeat (go_big_quiet_step (fail))
    refine wpQuiet_nil ?_
    refine wpS_nil ?_
    refine then_normal ?_
    refine wp_ret ?_
    refine then_ret ?_
    refine bodyPost_ret (results_tmp rfl _ _ _) rfl ?_
    exact does_ret (Mem.only (M := [_]) HM6.out [0] rfl) rfl rfl
  · have hlit := Lib.hid (lit_of hl')
    have hl := Lib.hid hl'
    clear hl'
    have hl80 : l.length ≤ 80 := hlit.out.1
    refine wp_region_N [(0, 1), (1, 3), (2, 1)] (by kernel_rfl) ?_
    refine wpS_this [0] rfl (by kernel_rfl) (by simp only [pickL, nthL, List.cons_append, List.nil_append]; rfl) ?_
    repeat (go_big_quiet_step (fail))
    refine wpQuiet_nil ?_
    refine wpS_does1 (i := 1) (d := some 11) (rem := []) (out := [_]) rfl (by rfl) rfl Try.call8 (light_d (oldT W0) _ l hR.out hlx.out) rfl HM0.out [0] rfl covS_nil rfl rfl ?_
    rintro W8 hm7 -
    rw [hl.out]
    have HM9 := Lib.hid hm7
    clear hm7
    simp only [Act.put, List.setIfInBounds_toArray, List.set_cons_succ, List.set_cons_zero]
    refine wpS_this [2] rfl (by kernel_rfl) (by simp only [pickL, nthL, List.cons_append, List.nil_append]; rfl) ?_
    repeat (go_big_quiet_step (fail))
    refine wpQuiet_nil ?_
    refine wpS_nil ?_
    refine then_normal ?_
    refine wp_cond_false rfl ?_
    refine wp_skip ?_
    refine then_normal ?_
    refine wp_seq ?_
    refine wp_region_N [(0, 1), (1, 3), (2, 1), (3, 3), (4, 1), (5, 1)] (by kernel_rfl) ?_
    refine wpS_this [0] rfl (by kernel_rfl) (by simp only [pickL, nthL, List.cons_append, List.nil_append]; rfl) ?_
    repeat (go_big_quiet_step (fail))
    refine wpQuiet_nil ?_
    refine wpS_doesU1 (i := 1) (d := some 15) (rem := [_]) rfl (by rfl) rfl Try.call10 (lnew_d room) rfl HM9.out [] rfl covS_nil (fun _ => rfl) rfl ?_
    rintro u12 W11 hm10 -
    obtain ⟨d, rfl, hm10q⟩ := Mem.lgN hm10
    clear hm10
    have HM13 := Lib.hid hm10q
    clear hm10q
    simp only [Act.put, List.setIfInBounds_toArray, List.set_cons_succ, List.set_cons_zero]
    refine wpS_this [2] rfl (by kernel_rfl) (by simp only [pickL, nthL, List.cons_append, List.nil_append]; rfl) ?_
    repeat (go_big_quiet_step (fail))
    refine wpQuiet_nil ?_
    refine wpS_doesU1 (i := 3) (d := some 17) (rem := [_, _]) rfl (by rfl) rfl Try.call11 (rnewL_d room) rfl HM13.out [] rfl covS_nil (fun _ => rfl) rfl ?_
    rintro u16 W15 hm14 -
    obtain ⟨dF, rfl, hm14q⟩ := Mem.rfN hm14
    clear hm14
    have HM17 := Lib.hid hm14q
    clear hm14q
    simp only [Act.put, List.setIfInBounds_toArray, List.set_cons_succ, List.set_cons_zero]
    refine wpS_this [4, 5] rfl (by kernel_rfl) (by simp only [pickL, nthL, List.cons_append, List.nil_append]; rfl) ?_
    repeat (go_big_quiet_step (fail))
    refine wpQuiet_nil ?_
    refine wpS_nil ?_
    refine then_normal ?_
    refine wp_seq ?_
    refine wp_seq ?_
    refine wp_region_N [(0, 1), (1, 1)] (by kernel_rfl) ?_
    refine wpS_this [0, 1] rfl (by kernel_rfl) (by simp only [pickL, nthL, List.cons_append, List.nil_append]; rfl) ?_
    repeat (go_big_quiet_step (fail))
    refine wpQuiet_nil ?_
    refine wpS_nil ?_
    refine then_normal ?_
    refine wp_cond_false rfl ?_
    refine wp_skip ?_
    refine then_normal ?_
    refine wp_seq ?_
    refine wp_seq ?_
    refine wp_region_N [(0, 1), (1, 1), (2, 1)] (by kernel_rfl) ?_
    refine wpS_this [0, 1, 2] rfl (by kernel_rfl) (by simp only [pickL, nthL, List.cons_append, List.nil_append]; rfl) ?_
    repeat (go_big_quiet_step (fail))
    refine wpQuiet_nil ?_
    refine wpS_nil ?_
    refine then_normal ?_
    refine wp_block ?_
    refine wp_loop_F [4, 7, 8, 9, 22, 23, 24, 25, 26, 27, 28, 29, 30, 31, 32, 33, 34, 35, 36, 37, 38, 39, 40, 41, 42, 43, 44, 45, 46, 47, 48, 49, 50, 51, 52, 53, 54, 55, 56, 57, 58, 59, 60, 61, 62, 63, 64, 65, 66, 67, 68, 69, 70, 71, 72, 73, 74, 75, 76, 77, 78, 79, 80, 81, 82, 83, 84, 85, 86, 87, 88, 89, 90, 91, 92, 93, 94, 95, 96, 97, 98, 99, 100, 101, 102, 103, 104, 105, 106, 107, 108, 109, 110, 111, 112, 113, 114, 115, 116, 117, 118, 119, 120, 121, 122, 123, 124, 125, 126, 127, 128, 129, 130, 131, 132, 133, 134, 135, 136, 137, 138, 139, 140] (fun n vs W' => ∃ (k : Nat) (S : Lg) (ys : List Dx), n = l.length - k ∧ vs 22 = .int .i64 (k : Int) ∧ k ≤ l.length ∧ LgOk S ∧ (∀ y ∈ ys, DxR (oldT W0) y) ∧ Mem [lgT d S, rfT dF S ys, oldT W0] H w W') (n0 := l.length) ?_ ?_
    · exact ⟨0, newL room, [], rfl, rfl, Nat.zero_le _, LgOk.new room, (fun y h => by cases h), (Mem.only (M := [_, _, _]) HM17.out [1, 0, 0] rfl)⟩
    rintro n vs W' ⟨k, S, ys, rfl, e22, hk, hS', hys', hm⟩
    simp only [putAll, List.map_cons, List.map_nil, Act.put, List.setIfInBounds_toArray, List.set_cons_succ, List.set_cons_zero]
    rw [e22]
    clear e22
    have hS := Lib.hid hS'
    clear hS'
    have hys := Lib.hid hys'
    clear hys'
    have HM18 := Lib.hid hm
    clear hm
    refine wp_seq ?_
    refine wp_region_N [(0, 1)] (by kernel_rfl) ?_
    refine wpS_this [0] rfl (by kernel_rfl) (by simp only [pickL, nthL, List.cons_append, List.nil_append]; rfl) ?_
    repeat (go_big_quiet_step (fail))
    refine wpQuiet_nil ?_
    refine wpS_nil ?_
    refine then_normal ?_
    refine wp_seq ?_
    refine wp_cond_split rfl (fun h19 => ?_) (fun h19 => ?_)
    · have hk1 : k + 1 ≤ l.length := by have : (k : Int) < ((l.length : Nat) : Int) := (by simpa using h19); omega
      clear h19
      obtain ⟨y, hy'⟩ : ∃ y, l[k]? = some y := ⟨_, List.getElem?_eq_getElem (hk1)⟩
      have hy := Lib.hid hy'
      clear hy'
      have hyq := Lib.hid (hQ.out y (List.mem_of_getElem? hy.out)).1
      have hyv := Lib.hid (hQ.out y (List.mem_of_getElem? hy.out)).2
      have hyr : Hid (y.x.d.r.p.2.2.length ≤ 1000) := Lib.hid (by have q := (good_rn (hlit.out.2 y (List.mem_of_getElem? hy.out))).1; have e := rn_len hyq.out; omega)
      obtain ⟨y0, h0'⟩ : ∃ z, l[0]? = some z := ⟨_, List.getElem?_eq_getElem (by omega)⟩
      obtain ⟨lb, lo, lc, hve, hlb, hcs'⟩ := first_at hrow.out h0'
      cases hve
      have hcs := Lib.hid hcs'
      clear hcs'
      have hq0 := Lib.hid (hQ.out y0 (List.mem_of_getElem? h0')).1
      have hv0 := Lib.hid (hQ.out y0 (List.mem_of_getElem? h0')).2
      have hr0 : Hid (y0.x.d.r.p.2.2.length ≤ 1000) := Lib.hid (by have q := (good_rn (hlit.out.2 y0 (List.mem_of_getElem? h0'))).1; have e := rn_len hq0.out; omega)
      clear h0'
      have hll : 0 < l.length := by omega
      refine wp_skip ?_
      refine then_normal ?_
      refine wp_seq ?_
      refine wp_block ?_
      refine wp_seq ?_
      refine wp_region_N [(0, 1), (1, 1), (2, 1), (3, 3), (4, 1), (5, 3)] (by kernel_rfl) ?_
      refine wpS_this [0] rfl (by kernel_rfl) (by simp only [pickL, nthL, List.cons_append, List.nil_append]; rfl) ?_
      repeat (go_big_quiet_step (fail))
      refine wpQuiet_nil ?_
      refine wpS_index (E := elemL) (i := 1) (d := some 25) rfl (by rfl) rfl rfl rfl (HM18.out.row 2 rfl hR.out) (hy.out) rfl ?_
      intro eb20 eo21 hc22
      simp only [Act.put, List.setIfInBounds_toArray, List.set_cons_succ, List.set_cons_zero]
      refine wpS_loadA (i := 2) (d := some 26) (cells := CallL.enc y) rfl (by rfl) rfl rfl hc22 Try.underlying45 rfl (by kernel_rfl) rfl ?_
      simp only [Act.put, List.setIfInBounds_toArray, List.set_cons_succ, List.set_cons_zero]
      refine wpS_alloc (i := 3) (dd := 8) (z := .agg (default : CallL).enc.toArray) (cs := (default : CallL).enc.toArray) rfl (by rfl) rfl (by kernel_rfl) rfl HM18.out covS_nil rfl ?_
      rintro b25 W24 hm23 -
      have HM26 := Lib.hid hm23
      clear hm23
      simp only [Act.put, List.setIfInBounds_toArray, List.set_cons_succ, List.set_cons_zero]
      refine wpS_this [4] rfl (by kernel_rfl) (by simp only [pickL, nthL, List.cons_append, List.nil_append]; rfl) ?_
      repeat (go_big_quiet_step (fail))
      refine wpQuiet_nil ?_
      refine wpS_storeA (i := 5) (L2 := [_, _, _]) (cs' := CallL.enc y) rfl (by rfl) rfl rfl rfl (by kernel_rfl) (show (CallL.enc y).all Value.oneCell' = true by kernel_rfl) HM26.out 0 rfl rfl (by kernel_rfl) (by kernel_rfl) covS_nil rfl ?_
      rintro W28 hm27 -
      have HM29 := Lib.hid hm27
      clear hm27
      refine wpS_nil ?_
      refine then_normal ?_
      refine wp_seq ?_
      obtain ⟨my, hmy'⟩ := bool_letter (mayD y.x.d)
      obtain ⟨sd, hsd'⟩ := bool_letter (sameD y.x.d y0.x.d)
      have gmy : (my == my) = true := beq_self_eq_true _
      have gsd : (sd == sd) = true := beq_self_eq_true _
      have hmy := Lib.hid hmy'
      clear hmy'
      have hsd := Lib.hid hsd'
      clear hsd'
      refine wp_region_M (fun k => k ∈ ([lb, b25] : List Nat)) [(0, 1), (1, 1), (3, 0), (4, 2), (2, 3), (5, 3), (6, 1), (7, 1), (8, 1), (9, 1), (10, 1), (11, 1), (12, 1), (13, 1), (15, 0), (16, 2), (17, 0), (18, 0), (19, 0), (20, 2), (14, 3), (21, 3), (22, 1), (23, 1), (24, 1)] (by kernel_rfl) (by kernel_rfl) HM29.out ?_
      intro W30 hm31
      have HM32 := Lib.hid hm31
      clear hm31
      refine wpS_this [0] rfl (by kernel_rfl) (by simp only [pickL, nthL, List.cons_append, List.nil_append]; rfl) ?_
      repeat (go_big_quiet_step (fail))
      refine wpQuiet_nil ?_
      refine wpS_loadA (i := 1) (d := some 28) (cells := y.x.enc) rfl (by rfl) rfl rfl (HM32.out.part 0 rfl (fun _ _ h => sub_app [_, _] _ [] h)) Try.underlying43 rfl (by kernel_rfl) rfl ?_
      simp only [Act.put, List.setIfInBounds_toArray, List.set_cons_succ, List.set_cons_zero]
      refine wpS_all [3] rfl (by kernel_rfl) (by simp only [pickL, nthL, List.cons_append, List.nil_append]; rfl) ?_
      repeat (go_big_quiet_step (fail))
      refine wpQuiet_nil ?_
      refine wpS_loadA2 (i := 4) (d := some 31) (cells := y.x.enc) rfl (by rfl) rfl rfl (by simp) (HM32.out.part 0 rfl (fun _ _ h => sub_app [_, _] _ [] h)) Try.underlying43 rfl (by kernel_rfl) rfl ?_
      simp only [Act.put, List.setIfInBounds_toArray, List.set_cons_succ, List.set_cons_zero]
      refine wpS_doesO1 (i := 2) (d := some 29) (rem := [_, _, _]) (out := [_, _, _, _]) rfl (by rfl) rfl Try.call12 (lmay_d (oldT W0) _ _ y.x.d (DxR.old hyq.out.1 hyv.out hyq.out.2 hyr.out)) rfl HM32.out [3] rfl (covS_box 0 rfl covS_nil) rfl 3 0 hlb rfl rfl rfl ?_
      rintro W34 hm33 hg35
      rw [hmy.out]
      have HM36 := Lib.hid hm33
      clear hm33
      simp only [Act.put, List.setIfInBounds_toArray, List.set_cons_succ, List.set_cons_zero]
      refine wpS_doesO1 (i := 5) (d := some 32) (rem := [_, _, _]) (out := [_, _, _, _]) rfl (by rfl) rfl Try.call13 (rmayD_d (oldT W0) _ _ y.x.d (DxR.old hyq.out.1 hyv.out hyq.out.2 hyr.out)) rfl HM36.out [0] rfl (covS_box 0 rfl covS_nil) rfl 0 0 hlb rfl rfl rfl ?_
      rintro W38 hm37 hg39
      rw [hmy.out]
      have HM40 := Lib.hid hm37
      clear hm37
      simp only [Act.put, List.setIfInBounds_toArray, List.set_cons_succ, List.set_cons_zero]
      refine wpS_this [6, 7, 8] rfl (by kernel_rfl) (by simp only [pickL, nthL, List.cons_append, List.nil_append]; rfl) ?_
      repeat (go_big_quiet_step (fail))
      refine wpQuiet_nil ?_
      refine wpS_loadA (i := 9) (d := some 36) (cells := y.x.enc) rfl (by rfl) rfl rfl (HM40.out.part 1 rfl (fun _ _ h => sub_app [_, _] _ [] h)) Try.underlying43 rfl (by kernel_rfl) rfl ?_
      simp only [Act.put, List.setIfInBounds_toArray, List.set_cons_succ, List.set_cons_zero]
      refine wpS_this [10, 11, 12] rfl (by kernel_rfl) (by simp only [pickL, nthL, List.cons_append, List.nil_append]; rfl) ?_
      repeat (go_big_quiet_step (fail))
      refine wpQuiet_nil ?_
      refine wpS_loadA (i := 13) (d := some 40) (b := lb) (off := lo + 2) (cells := y0.x.enc) rfl (by rfl) rfl rfl (HM40.out.oldPart 0 rfl hlb hcs.out) Try.underlying43 rfl (by kernel_rfl) rfl ?_
      simp only [Act.put, List.setIfInBounds_toArray, List.set_cons_succ, List.set_cons_zero]
      refine wpS_all [15] rfl (by kernel_rfl) (by simp only [pickL, nthL, List.cons_append, List.nil_append]; rfl) ?_
      repeat (go_big_quiet_step (fail))
      refine wpQuiet_nil ?_
      refine wpS_loadA2 (i := 16) (d := some 43) (cells := y.x.enc) rfl (by rfl) rfl rfl (by simp) (HM40.out.part 1 rfl (fun _ _ h => sub_app [_, _] _ [] h)) Try.underlying43 rfl (by kernel_rfl) rfl ?_
      simp only [Act.put, List.setIfInBounds_toArray, List.set_cons_succ, List.set_cons_zero]
      refine wpS_all [17, 18, 19] rfl (by kernel_rfl) (by simp only [pickL, nthL, List.cons_append, List.nil_append]; rfl) ?_
      repeat (go_big_quiet_step (fail))
      refine wpQuiet_nil ?_
      refine wpS_loadA2 (i := 20) (d := some 47) (b := lb) (off := lo + 2) (cells := y0.x.enc) rfl (by rfl) rfl rfl (by simp) (HM40.out.oldPart 0 rfl hlb hcs.out) Try.underlying43 rfl (by kernel_rfl) rfl ?_
      simp only [Act.put, List.setIfInBounds_toArray, List.set_cons_succ, List.set_cons_zero]
      refine wpS_doesO2 (i := 14) (d := some 41) (rem := [_, _, _]) (out := [_, _, _, _]) rfl (by rfl) rfl Try.call14 (lsame_d (oldT W0) _ _ y.x.d (DxR.old hyq.out.1 hyv.out hyq.out.2 hyr.out) _ _ y0.x.d (DxR.old hq0.out.1 hv0.out hq0.out.2 hr0.out)) rfl rfl HM40.out [0] rfl (covS_box 0 rfl covS_nil) rfl 0 0 hlb rfl rfl rfl ?_
      rintro W42 hm41 hg43
      rw [hsd.out]
      have HM44 := Lib.hid hm41
      clear hm41
      simp only [Act.put, List.setIfInBounds_toArray, List.set_cons_succ, List.set_cons_zero]
      refine wpS_doesO2 (i := 21) (d := some 48) (rem := [_, _, _]) (out := [_, _, _, _]) rfl (by rfl) rfl Try.call15 (rsameD_d (oldT W0) _ _ y.x.d (DxR.old hyq.out.1 hyv.out hyq.out.2 hyr.out) _ _ y0.x.d (DxR.old hq0.out.1 hv0.out hq0.out.2 hr0.out)) rfl rfl HM44.out [0] rfl (covS_box 0 rfl covS_nil) rfl 0 0 hlb rfl rfl rfl ?_
      rintro W46 hm45 hg47
      rw [hsd.out]
      have HM48 := Lib.hid hm45
      clear hm45
      simp only [Act.put, List.setIfInBounds_toArray, List.set_cons_succ, List.set_cons_zero]
      refine wpS_this [22, 23, 24] rfl (by kernel_rfl) (by simp only [pickL, nthL, List.cons_append, List.nil_append]; rfl) ?_
      repeat (go_big_quiet_step (fail))
      refine wpQuiet_nil ?_
      refine wpS_nil ?_
      refine then_normal ?_
      refine wp_seq ?_
      refine wp_seq ?_
      refine wp_region_N [(0, 1), (1, 1)] (by kernel_rfl) ?_
      refine wpS_this [0] rfl (by kernel_rfl) (by simp only [pickL, nthL, List.cons_append, List.nil_append]; rfl) ?_
      repeat (go_big_quiet_step (fail))
      refine wpQuiet_nil ?_
      refine wpS_load1 (i := 1) (d := some 52) (u := .int .i64 y.op) rfl (by rfl) rfl rfl (HM48.out.part1 1 rfl rfl) Try.underlying3 rfl rfl ?_
      simp only [Act.put, List.setIfInBounds_toArray, List.set_cons_succ, List.set_cons_zero]
      refine wpS_nil ?_
      refine then_normal ?_
      refine wp_block ?_
      refine wp_seq ?_
      rcases (show y.op = 0 ∨ y.op = 1 ∨ (y.op ≠ 0 ∧ y.op ≠ 1) from by omega) with ho | ho | ⟨ho, ho2⟩
      · have ge : (y.op == 0) = true := beq_iff_eq.2 ho
        clear ho
        obtain ⟨S2, e, hop', hS2'⟩ : ∃ x e, syncL S = (x, e) ∧ LgOk x := ⟨_, _, rfl, hS.out.sync⟩
        obtain ⟨ys2, hyt'⟩ : ∃ x, ys = x := ⟨_, rfl⟩
        have hy2' : ∀ y ∈ ys2, DxR (oldT W0) y := by rw [← hyt']; exact hys.out
        rw [hyt'] at HM48
        clear hyt'
        have hop := Lib.hid hop'
        clear hop'
        have hS2 := Lib.hid hS2'
        clear hS2'
        have hy2 := Lib.hid hy2'
        clear hy2'
        have gee : (e == e) = true := beq_self_eq_true _
        refine wp_region_N [(0, 1), (1, 1)] (by kernel_rfl) ?_
        refine wpS_this [0, 1] rfl (by kernel_rfl) (by simp only [pickL, nthL, List.cons_append, List.nil_append]; rfl) ?_
        repeat (go_big_quiet_step (fail))
        refine wpQuiet_nil ?_
        refine wpS_nil ?_
        refine then_normal ?_
        refine wp_cond_true rfl ?_
        refine wp_region_N [(0, 1), (1, 1), (2, 1), (3, 3), (4, 1), (5, 3), (6, 1), (7, 1), (8, 1)] (by kernel_rfl) ?_
        refine wpS_this [0, 1, 2] rfl (by kernel_rfl) (by simp only [pickL, nthL, List.cons_append, List.nil_append]; rfl) ?_
        repeat (go_big_quiet_step (fail))
        refine wpQuiet_nil ?_
        refine wpS_does1 (i := 3) (d := some 70) (rem := [_, _, _]) (out := [_, _, _, _]) rfl (by rfl) rfl Try.call16 (lsync_d d S hS.out) rfl HM48.out [2] rfl covS_nil rfl rfl ?_
        rintro W50 hm49 -
        rw [hop.out] at hm49 ⊢
        have HM51 := Lib.hid hm49
        clear hm49
        simp only [Act.put, List.setIfInBounds_toArray, List.set_cons_succ, List.set_cons_zero]
        refine wpS_this [4] rfl (by kernel_rfl) (by simp only [pickL, nthL, List.cons_append, List.nil_append]; rfl) ?_
        repeat (go_big_quiet_step (fail))
        refine wpQuiet_nil ?_
        refine wpS_does1 (i := 5) (d := some 72) (rem := [_, _, _]) (out := [_, _, _, _]) rfl (by rfl) rfl Try.call17 (rsync_d dF S ys2 hS.out) rfl HM51.out [3] rfl covS_nil rfl rfl ?_
        rintro W53 hm52 -
        rw [hop.out] at hm52 ⊢
        have HM54 := Lib.hid hm52
        clear hm52
        simp only [Act.put, List.setIfInBounds_toArray, List.set_cons_succ, List.set_cons_zero]
        refine wpS_this [6, 7, 8] rfl (by kernel_rfl) (by simp only [pickL, nthL, List.cons_append, List.nil_append]; rfl) ?_
        repeat (go_big_quiet_step (fail))
        refine wpQuiet_nil ?_
        refine wpS_nil ?_
        refine block_normal ?_
        refine then_normal ?_
        refine wp_seq ?_
        obtain ⟨q8, hq8'⟩ : ∃ x, k % 8 = x := ⟨_, rfl⟩
        have hqi : Hid ((k : Int) % 8 = (q8 : Int)) := Lib.hid (by rw [← hq8']; omega)
        clear hq8'
        by_cases hz8 : q8 = 0
        · have g8 : ((q8 : Int) == 0) = true := beq_iff_eq.2 (by omega)
          have g8' : (q8 == 0) = true := beq_iff_eq.2 hz8
          clear hz8
          obtain ⟨pR, cR, hye', HG'⟩ := Mem.rf (Mem.only (M := [_, _, _, _]) HM54.out [0, 0, 0, 0] rfl)
          have HG := Lib.hid HG'
          clear HG'
          have hye := Lib.hid hye'
          clear hye'
          have hyl : Hid (ys2.length = S2.l.length) := Lib.hid (by rw [← hye.out, List.length_map])
          have hb2 : ys2.length ≤ S2.room := by rw [hyl.out]; exact hS2.out.len
          have hb3 : S2.room ≤ 3000 := hS2.out.room
          have hln : Hid ((S2.l.length : Int) = (ys2.length : Int)) := Lib.hid (by rw [hyl.out])
          have hsm : Hid (sameL S2.l (ys2.map fun x => x.d) = true) := Lib.hid (same_eq hye.out.symm)
          have gs : ((S2.sure : Int) != (S2.sure : Int)) = false := bne_self_eq_false _
          have gs' : (S2.sure != S2.sure) = false := bne_self_eq_false _
          have gl : ((ys2.length : Int) != (ys2.length : Int)) = false := bne_self_eq_false _
          have gl' : (ys2.length != ys2.length) = false := bne_self_eq_false _
          have gr : (((S2.room : Int) - (ys2.length : Int)) != ((S2.room : Int) - (ys2.length : Int))) = false := bne_self_eq_false _
          refine wp_region_M (fun k => k ∈ ([dF] : List Nat)) [(0, 1), (1, 1), (2, 1), (3, 1), (5, 0), (6, 0), (7, 0), (8, 2), (9, 0), (4, 3), (10, 1), (11, 1), (12, 1), (13, 1), (15, 0), (16, 0), (17, 0), (18, 2), (14, 3), (19, 1), (20, 1), (21, 1), (22, 1), (24, 0), (25, 0), (26, 0), (27, 2), (28, 0), (29, 0), (30, 0), (31, 2), (32, 0), (33, 0), (23, 3), (34, 1), (35, 1), (36, 1), (37, 1), (38, 1), (39, 1), (40, 1), (41, 1), (43, 0), (44, 0), (45, 0), (46, 2), (42, 3), (47, 3), (48, 1), (49, 1), (50, 1)] (by kernel_rfl) (by kernel_rfl) HG.out ?_
          intro W55 hm56
          have HM57 := Lib.hid hm56
          clear hm56
          refine wpS_this [0, 1, 2, 3] rfl (by kernel_rfl) (by simp only [pickL, nthL, List.cons_append, List.nil_append]; rfl) ?_
          repeat (go_big_quiet_step (fail))
          refine wpQuiet_nil ?_
          refine wpS_all [5, 6, 7] rfl (by kernel_rfl) (by simp only [pickL, nthL, List.cons_append, List.nil_append]; rfl) ?_
          repeat (go_big_quiet_step (fail))
          refine wpQuiet_nil ?_
          have Crb := Mem.cell HM57.out 0 rfl
          refine wpS_stay [8] rfl (by kernel_rfl) (by simp only [pickL, nthL, List.cons_append, List.nil_append]; rfl) ?_
          repeat (go_big_quiet_step (fail))
          refine wpQuiet_nil ?_
          clear Crb
          refine wpS_all [9] rfl (by kernel_rfl) (by simp only [pickL, nthL, List.cons_append, List.nil_append]; rfl) ?_
          repeat (go_big_quiet_step (fail))
          refine wpQuiet_nil ?_
          refine wpS_does1 (i := 4) (d := some 93) (rem := [_, _, _, _]) (out := [_, _, _, _, _]) rfl (by rfl) rfl Try.call22 (llen_d d S2 hS2.out) rfl HM57.out [2] rfl (covS_box 0 rfl covS_nil) rfl rfl ?_
          rintro W59 hm58 hg60
          rw [hln.out]
          have HM61 := Lib.hid hm58
          clear hm58
          simp only [Act.put, List.setIfInBounds_toArray, List.set_cons_succ, List.set_cons_zero]
          refine wpS_this [10, 11, 12, 13] rfl (by kernel_rfl) (by simp only [pickL, nthL, List.cons_append, List.nil_append]; rfl) ?_
          repeat (go_big_quiet_step (fail))
          refine wpQuiet_nil ?_
          refine wpS_all [15, 16, 17] rfl (by kernel_rfl) (by simp only [pickL, nthL, List.cons_append, List.nil_append]; rfl) ?_
          repeat (go_big_quiet_step (fail))
          refine wpQuiet_nil ?_
          have Crb := Mem.cell HM61.out 1 rfl
          refine wpS_stay [18] rfl (by kernel_rfl) (by simp only [pickL, nthL, List.cons_append, List.nil_append]; rfl) ?_
          repeat (go_big_quiet_step (fail))
          refine wpQuiet_nil ?_
          clear Crb
          refine wpS_does1 (i := 14) (d := some 103) (rem := [_, _, _, _]) (out := [_, _, _, _, _]) rfl (by rfl) rfl Try.call23 (lsure_d d S2 hS2.out) rfl HM61.out [0] rfl (covS_box 0 rfl covS_nil) rfl rfl ?_
          rintro W63 hm62 hg64
          have HM65 := Lib.hid hm62
          clear hm62
          simp only [Act.put, List.setIfInBounds_toArray, List.set_cons_succ, List.set_cons_zero]
          refine wpS_this [19, 20, 21, 22] rfl (by kernel_rfl) (by simp only [pickL, nthL, List.cons_append, List.nil_append]; rfl) ?_
          repeat (go_big_quiet_step (fail))
          refine wpQuiet_nil ?_
          refine wpS_all [24, 25, 26] rfl (by kernel_rfl) (by simp only [pickL, nthL, List.cons_append, List.nil_append]; rfl) ?_
          repeat (go_big_quiet_step (fail))
          refine wpQuiet_nil ?_
          have Crb := Mem.cell HM65.out 1 rfl
          refine wpS_stay [27] rfl (by kernel_rfl) (by simp only [pickL, nthL, List.cons_append, List.nil_append]; rfl) ?_
          repeat (go_big_quiet_step (fail))
          refine wpQuiet_nil ?_
          clear Crb
          refine wpS_all [28, 29, 30] rfl (by kernel_rfl) (by simp only [pickL, nthL, List.cons_append, List.nil_append]; rfl) ?_
          repeat (go_big_quiet_step (fail))
          refine wpQuiet_nil ?_
          have Crb := Mem.cell HM65.out 1 rfl
          refine wpS_stay [31] rfl (by kernel_rfl) (by simp only [pickL, nthL, List.cons_append, List.nil_append]; rfl) ?_
          repeat (go_big_quiet_step (fail))
          refine wpQuiet_nil ?_
          clear Crb
          refine wpS_all [32, 33] rfl (by kernel_rfl) (by simp only [pickL, nthL, List.cons_append, List.nil_append]; rfl) ?_
          repeat (go_big_quiet_step (fail))
          refine wpQuiet_nil ?_
          refine wpS_does1 (i := 23) (d := some 112) (rem := [_, _, _, _]) (out := [_, _, _, _, _]) rfl (by rfl) rfl Try.call24 (lroom_d d S2 hS2.out) rfl HM65.out [0] rfl (covS_box 0 rfl covS_nil) rfl rfl ?_
          rintro W67 hm66 hg68
          rw [hln.out]
          have HM69 := Lib.hid hm66
          clear hm66
          simp only [Act.put, List.setIfInBounds_toArray, List.set_cons_succ, List.set_cons_zero]
          refine wpS_this [34, 35, 36, 37] rfl (by kernel_rfl) (by simp only [pickL, nthL, List.cons_append, List.nil_append]; rfl) ?_
          repeat (go_big_quiet_step (fail))
          refine wpQuiet_nil ?_
          refine wpS_this [38] rfl (by kernel_rfl) (by simp only [pickL, nthL, List.cons_append, List.nil_append]; rfl) ?_
          repeat (go_big_quiet_step (fail))
          refine wpQuiet_nil ?_
          rw [hqi.out]
          refine wpS_this [39, 40, 41] rfl (by kernel_rfl) (by simp only [pickL, nthL, List.cons_append, List.nil_append]; rfl) ?_
          repeat (go_big_quiet_step (fail))
          refine wpQuiet_nil ?_
          refine wpS_all [43, 44, 45] rfl (by kernel_rfl) (by simp only [pickL, nthL, List.cons_append, List.nil_append]; rfl) ?_
          repeat (go_big_quiet_step (fail))
          refine wpQuiet_nil ?_
          have Crb := Mem.cell HM69.out 1 rfl
          refine wpS_stay [46] rfl (by kernel_rfl) (by simp only [pickL, nthL, List.cons_append, List.nil_append]; rfl) ?_
          repeat (go_big_quiet_step (fail))
          refine wpQuiet_nil ?_
          clear Crb
          refine wpS_doesU1 (i := 42) (d := some 131) (rem := [_, _, _, _]) rfl (by rfl) rfl Try.call26 (lall_d d S2 hS2.out) rfl HM69.out [0] rfl (covS_box 0 rfl covS_nil) (fun _ => rfl) rfl ?_
          rintro u73 W71 hm70 hg72
          obtain ⟨zs, pa, ca, has', rfl, hm70q⟩ := Mem.alR hm70
          clear hm70
          have has := Lib.hid has'
          clear has'
          have HM74 := Lib.hid hm70q
          clear hm70q
          simp only [Act.put, List.setIfInBounds_toArray, List.set_cons_succ, List.set_cons_zero]
          refine wpS_does2 (i := 47) (d := some 136) (rem := [_, _, _]) (out := [_, _, _, _, _, _, _]) rfl (by rfl) rfl Try.call25 (Does.ofList (sameL_d (listT [_, _, _, _]) _ _ zs ys2 (vRowE 0 rfl rowT_reads) (vRowE 2 rfl rowT_reads) (all_reads 1 rfl (lg_reads hS2.out (lg_all has.out))) (all_reads 3 rfl hy2.out) (by have := lg_len has.out; have := hS2.out.len; have := hS2.out.room; omega))) rfl rfl HM74.out [0, 0, 2, 2] rfl (covS_box 1 rfl covS_nil) rfl rfl ?_
          rintro W76 hm75 hg77
          rw [has.out, hsm.out]
          have HM78 := Lib.hid hm75
          clear hm75
          simp only [Act.put, List.setIfInBounds_toArray, List.set_cons_succ, List.set_cons_zero]
          refine wpS_this [48, 49, 50] rfl (by kernel_rfl) (by simp only [pickL, nthL, List.cons_append, List.nil_append]; rfl) ?_
          repeat (go_big_quiet_step (fail))
          refine wpQuiet_nil ?_
          refine wpS_nil ?_
          refine then_normal ?_
          refine wp_cond_false rfl ?_
          refine wp_skip ?_
          refine block_normal ?_
          refine then_normal ?_
          refine wp_region_N [(0, 1), (1, 1)] (by kernel_rfl) ?_
          refine wpS_this [0, 1] rfl (by kernel_rfl) (by simp only [pickL, nthL, List.cons_append, List.nil_append]; rfl) ?_
          repeat (go_big_quiet_step (fail))
          refine wpQuiet_nil ?_
          refine wpS_nil ?_
          refine then_normal ?_
          refine ⟨by kernel_rfl, ?_⟩
          exact ⟨l.length - (k + 1), by omega, k + 1, S2, ys2, rfl, rfl, hk1, hS2.out, hy2.out, Mem.only (M := [_, _, _]) (Mem.toRf hye.out rfl rfl rfl (Mem.only (M := [_, _, _, _]) HM78.out [5, 2, 3, 2] rfl)) [1, 0, 0] rfl⟩
        · have g8 : ((q8 : Int) == 0) = false := beq_eq_false_iff_ne.2 (by omega)
          have g8' : (q8 == 0) = false := beq_eq_false_iff_ne.2 hz8
          clear hz8
          obtain ⟨pR, cR, hye', HG'⟩ := Mem.rf (Mem.only (M := [_, _, _, _]) HM54.out [0, 0, 0, 0] rfl)
          have HG := Lib.hid HG'
          clear HG'
          have hye := Lib.hid hye'
          clear hye'
          have hyl : Hid (ys2.length = S2.l.length) := Lib.hid (by rw [← hye.out, List.length_map])
          have hb2 : ys2.length ≤ S2.room := by rw [hyl.out]; exact hS2.out.len
          have hb3 : S2.room ≤ 3000 := hS2.out.room
          have hln : Hid ((S2.l.length : Int) = (ys2.length : Int)) := Lib.hid (by rw [hyl.out])
          have hsm : Hid (sameL S2.l (ys2.map fun x => x.d) = true) := Lib.hid (same_eq hye.out.symm)
          have gs : ((S2.sure : Int) != (S2.sure : Int)) = false := bne_self_eq_false _
          have gs' : (S2.sure != S2.sure) = false := bne_self_eq_false _
          have gl : ((ys2.length : Int) != (ys2.length : Int)) = false := bne_self_eq_false _
          have gl' : (ys2.length != ys2.length) = false := bne_self_eq_false _
          have gr : (((S2.room : Int) - (ys2.length : Int)) != ((S2.room : Int) - (ys2.length : Int))) = false := bne_self_eq_false _
          refine wp_region_M (fun k => k ∈ ([dF] : List Nat)) [(0, 1), (1, 1), (2, 1), (3, 1), (5, 0), (6, 0), (7, 0), (8, 2), (9, 0), (4, 3), (10, 1), (11, 1), (12, 1), (13, 1), (15, 0), (16, 0), (17, 0), (18, 2), (14, 3), (19, 1), (20, 1), (21, 1), (22, 1), (24, 0), (25, 0), (26, 0), (27, 2), (28, 0), (29, 0), (30, 0), (31, 2), (32, 0), (33, 0), (23, 3), (34, 1), (35, 1), (36, 1), (37, 1), (38, 1), (39, 1), (40, 1), (41, 1), (43, 0), (44, 0), (45, 0), (46, 2), (42, 3), (47, 3), (48, 1), (49, 1), (50, 1)] (by kernel_rfl) (by kernel_rfl) HG.out ?_
          intro W79 hm80
          have HM81 := Lib.hid hm80
          clear hm80
          refine wpS_this [0, 1, 2, 3] rfl (by kernel_rfl) (by simp only [pickL, nthL, List.cons_append, List.nil_append]; rfl) ?_
          repeat (go_big_quiet_step (fail))
          refine wpQuiet_nil ?_
          refine wpS_all [5, 6, 7] rfl (by kernel_rfl) (by simp only [pickL, nthL, List.cons_append, List.nil_append]; rfl) ?_
          repeat (go_big_quiet_step (fail))
          refine wpQuiet_nil ?_
          have Crb := Mem.cell HM81.out 0 rfl
          refine wpS_stay [8] rfl (by kernel_rfl) (by simp only [pickL, nthL, List.cons_append, List.nil_append]; rfl) ?_
          repeat (go_big_quiet_step (fail))
          refine wpQuiet_nil ?_
          clear Crb
          refine wpS_all [9] rfl (by kernel_rfl) (by simp only [pickL, nthL, List.cons_append, List.nil_append]; rfl) ?_
          repeat (go_big_quiet_step (fail))
          refine wpQuiet_nil ?_
          refine wpS_does1 (i := 4) (d := some 93) (rem := [_, _, _, _]) (out := [_, _, _, _, _]) rfl (by rfl) rfl Try.call22 (llen_d d S2 hS2.out) rfl HM81.out [2] rfl (covS_box 0 rfl covS_nil) rfl rfl ?_
          rintro W83 hm82 hg84
          rw [hln.out]
          have HM85 := Lib.hid hm82
          clear hm82
          simp only [Act.put, List.setIfInBounds_toArray, List.set_cons_succ, List.set_cons_zero]
          refine wpS_this [10, 11, 12, 13] rfl (by kernel_rfl) (by simp only [pickL, nthL, List.cons_append, List.nil_append]; rfl) ?_
          repeat (go_big_quiet_step (fail))
          refine wpQuiet_nil ?_
          refine wpS_all [15, 16, 17] rfl (by kernel_rfl) (by simp only [pickL, nthL, List.cons_append, List.nil_append]; rfl) ?_
          repeat (go_big_quiet_step (fail))
          refine wpQuiet_nil ?_
          have Crb := Mem.cell HM85.out 1 rfl
          refine wpS_stay [18] rfl (by kernel_rfl) (by simp only [pickL, nthL, List.cons_append, List.nil_append]; rfl) ?_
          repeat (go_big_quiet_step (fail))
          refine wpQuiet_nil ?_
          clear Crb
          refine wpS_does1 (i := 14) (d := some 103) (rem := [_, _, _, _]) (out := [_, _, _, _, _]) rfl (by rfl) rfl Try.call23 (lsure_d d S2 hS2.out) rfl HM85.out [0] rfl (covS_box 0 rfl covS_nil) rfl rfl ?_
          rintro W87 hm86 hg88
          have HM89 := Lib.hid hm86
          clear hm86
          simp only [Act.put, List.setIfInBounds_toArray, List.set_cons_succ, List.set_cons_zero]
          refine wpS_this [19, 20, 21, 22] rfl (by kernel_rfl) (by simp only [pickL, nthL, List.cons_append, List.nil_append]; rfl) ?_
          repeat (go_big_quiet_step (fail))
          refine wpQuiet_nil ?_
          refine wpS_all [24, 25, 26] rfl (by kernel_rfl) (by simp only [pickL, nthL, List.cons_append, List.nil_append]; rfl) ?_
          repeat (go_big_quiet_step (fail))
          refine wpQuiet_nil ?_
          have Crb := Mem.cell HM89.out 1 rfl
          refine wpS_stay [27] rfl (by kernel_rfl) (by simp only [pickL, nthL, List.cons_append, List.nil_append]; rfl) ?_
          repeat (go_big_quiet_step (fail))
          refine wpQuiet_nil ?_
          clear Crb
          refine wpS_all [28, 29, 30] rfl (by kernel_rfl) (by simp only [pickL, nthL, List.cons_append, List.nil_append]; rfl) ?_
          repeat (go_big_quiet_step (fail))
          refine wpQuiet_nil ?_
          have Crb := Mem.cell HM89.out 1 rfl
          refine wpS_stay [31] rfl (by kernel_rfl) (by simp only [pickL, nthL, List.cons_append, List.nil_append]; rfl) ?_
          repeat (go_big_quiet_step (fail))
          refine wpQuiet_nil ?_
          clear Crb
          refine wpS_all [32, 33] rfl (by kernel_rfl) (by simp only [pickL, nthL, List.cons_append, List.nil_append]; rfl) ?_
          repeat (go_big_quiet_step (fail))
          refine wpQuiet_nil ?_
          refine wpS_does1 (i := 23) (d := some 112) (rem := [_, _, _, _]) (out := [_, _, _, _, _]) rfl (by rfl) rfl Try.call24 (lroom_d d S2 hS2.out) rfl HM89.out [0] rfl (covS_box 0 rfl covS_nil) rfl rfl ?_
          rintro W91 hm90 hg92
          rw [hln.out]
          have HM93 := Lib.hid hm90
          clear hm90
          simp only [Act.put, List.setIfInBounds_toArray, List.set_cons_succ, List.set_cons_zero]
          refine wpS_this [34, 35, 36, 37] rfl (by kernel_rfl) (by simp only [pickL, nthL, List.cons_append, List.nil_append]; rfl) ?_
          repeat (go_big_quiet_step (fail))
          refine wpQuiet_nil ?_
          refine wpS_this [38] rfl (by kernel_rfl) (by simp only [pickL, nthL, List.cons_append, List.nil_append]; rfl) ?_
          repeat (go_big_quiet_step (fail))
          refine wpQuiet_nil ?_
          rw [hqi.out]
          refine wpS_this [39, 40, 41] rfl (by kernel_rfl) (by simp only [pickL, nthL, List.cons_append, List.nil_append]; rfl) ?_
          repeat (go_big_quiet_step (fail))
          refine wpQuiet_nil ?_
          refine wpS_all [43, 44, 45] rfl (by kernel_rfl) (by simp only [pickL, nthL, List.cons_append, List.nil_append]; rfl) ?_
          repeat (go_big_quiet_step (fail))
          refine wpQuiet_nil ?_
          have Crb := Mem.cell HM93.out 1 rfl
          refine wpS_stay [46] rfl (by kernel_rfl) (by simp only [pickL, nthL, List.cons_append, List.nil_append]; rfl) ?_
          repeat (go_big_quiet_step (fail))
          refine wpQuiet_nil ?_
          clear Crb
          refine wpS_skip (i := 42) (d := some 131) rfl (by rfl) rfl ?_
          simp only [Act.put, List.setIfInBounds_toArray, List.set_cons_succ, List.set_cons_zero]
          refine wpS_skip (i := 47) (d := some 136) rfl (by rfl) rfl ?_
          simp only [Act.put, List.setIfInBounds_toArray, List.set_cons_succ, List.set_cons_zero]
          refine wpS_this [48, 49, 50] rfl (by kernel_rfl) (by simp only [pickL, nthL, List.cons_append, List.nil_append]; rfl) ?_
          repeat (go_big_quiet_step (fail))
          refine wpQuiet_nil ?_
          refine wpS_nil ?_
          refine then_normal ?_
          refine wp_cond_false rfl ?_
          refine wp_skip ?_
          refine block_normal ?_
          refine then_normal ?_
          refine wp_region_N [(0, 1), (1, 1)] (by kernel_rfl) ?_
          refine wpS_this [0, 1] rfl (by kernel_rfl) (by simp only [pickL, nthL, List.cons_append, List.nil_append]; rfl) ?_
          repeat (go_big_quiet_step (fail))
          refine wpQuiet_nil ?_
          refine wpS_nil ?_
          refine then_normal ?_
          refine ⟨by kernel_rfl, ?_⟩
          exact ⟨l.length - (k + 1), by omega, k + 1, S2, ys2, rfl, rfl, hk1, hS2.out, hy2.out, Mem.only (M := [_, _, _]) (Mem.toRf hye.out rfl rfl rfl (Mem.only (M := [_, _, _, _]) HM93.out [1, 1, 0, 0] rfl)) [1, 0, 0] rfl⟩
      · have ge : (y.op == 0) = false := beq_eq_false_iff_ne.2 (by omega)
        have ge1 : (y.op == 1) = true := beq_iff_eq.2 ho
        clear ho
        obtain ⟨S2, e, hop', hS2'⟩ : ∃ x e, crashL S y.n = (x, e) ∧ LgOk x := ⟨_, _, rfl, hS.out.crash y.n⟩
        obtain ⟨ys2, hyt'⟩ : ∃ x, ys.take (keepL S y.n) = x := ⟨_, rfl⟩
        have hy2' : ∀ y ∈ ys2, DxR (oldT W0) y := by rw [← hyt']; exact fun z hz => hys.out z (List.mem_of_mem_take hz)
        have hop := Lib.hid hop'
        clear hop'
        have hS2 := Lib.hid hS2'
        clear hS2'
        have hy2 := Lib.hid hy2'
        clear hy2'
        have hyt := Lib.hid hyt'
        clear hyt'
        have gee : (e == e) = true := beq_self_eq_true _
        refine wp_region_N [(0, 1), (1, 1)] (by kernel_rfl) ?_
        refine wpS_this [0, 1] rfl (by kernel_rfl) (by simp only [pickL, nthL, List.cons_append, List.nil_append]; rfl) ?_
        repeat (go_big_quiet_step (fail))
        refine wpQuiet_nil ?_
        refine wpS_nil ?_
        refine then_normal ?_
        refine wp_cond_false rfl ?_
        refine wp_seq ?_
        refine wp_region_N [(0, 1), (1, 1)] (by kernel_rfl) ?_
        refine wpS_this [0, 1] rfl (by kernel_rfl) (by simp only [pickL, nthL, List.cons_append, List.nil_append]; rfl) ?_
        repeat (go_big_quiet_step (fail))
        refine wpQuiet_nil ?_
        refine wpS_nil ?_
        refine then_normal ?_
        refine wp_cond_true rfl ?_
        refine wp_region_M (fun k => k ∈ ([b25] : List Nat)) [(0, 1), (1, 1), (2, 1), (3, 1), (4, 1), (6, 0), (7, 0), (8, 2), (5, 3), (9, 3), (10, 1), (11, 1), (12, 1)] (by kernel_rfl) (by kernel_rfl) HM48.out ?_
        intro W94 hm95
        have HM96 := Lib.hid hm95
        clear hm95
        refine wpS_this [0, 1, 2, 3] rfl (by kernel_rfl) (by simp only [pickL, nthL, List.cons_append, List.nil_append]; rfl) ?_
        repeat (go_big_quiet_step (fail))
        refine wpQuiet_nil ?_
        refine wpS_load1 (i := 4) (d := some 81) (u := .int .i64 y.n) rfl (by rfl) rfl rfl (HM96.out.part1 1 rfl rfl) Try.underlying3 rfl rfl ?_
        simp only [Act.put, List.setIfInBounds_toArray, List.set_cons_succ, List.set_cons_zero]
        refine wpS_all [6, 7] rfl (by kernel_rfl) (by simp only [pickL, nthL, List.cons_append, List.nil_append]; rfl) ?_
        repeat (go_big_quiet_step (fail))
        refine wpQuiet_nil ?_
        refine wpS_load12 (i := 8) (d := some 85) (u := .int .i64 y.n) rfl (by rfl) rfl rfl (by simp) (HM96.out.part1 1 rfl rfl) Try.underlying3 rfl rfl ?_
        simp only [Act.put, List.setIfInBounds_toArray, List.set_cons_succ, List.set_cons_zero]
        refine wpS_does2 (i := 5) (d := some 82) (rem := [_, _, _]) (out := [_, _, _, _]) rfl (by rfl) rfl Try.call18 (lcrash_d d S hS.out y.n) rfl rfl HM96.out [2] rfl (covS_box 1 rfl covS_nil) rfl rfl ?_
        rintro W98 hm97 hg99
        rw [hop.out] at hm97 ⊢
        have HM100 := Lib.hid hm97
        clear hm97
        simp only [Act.put, List.setIfInBounds_toArray, List.set_cons_succ, List.set_cons_zero]
        refine wpS_does2 (i := 9) (d := some 86) (rem := [_, _, _]) (out := [_, _, _, _]) rfl (by rfl) rfl Try.call19 (rcrash_d dF S ys hS.out y.n) rfl rfl HM100.out [3] rfl (covS_box 2 rfl covS_nil) rfl rfl ?_
        rintro W102 hm101 hg103
        rw [hop.out] at hm101 ⊢
        rw [hyt.out] at hm101
        have HM104 := Lib.hid hm101
        clear hm101
        simp only [Act.put, List.setIfInBounds_toArray, List.set_cons_succ, List.set_cons_zero]
        refine wpS_this [10, 11, 12] rfl (by kernel_rfl) (by simp only [pickL, nthL, List.cons_append, List.nil_append]; rfl) ?_
        repeat (go_big_quiet_step (fail))
        refine wpQuiet_nil ?_
        refine wpS_nil ?_
        refine block_normal ?_
        refine then_normal ?_
        refine wp_seq ?_
        obtain ⟨q8, hq8'⟩ : ∃ x, k % 8 = x := ⟨_, rfl⟩
        have hqi : Hid ((k : Int) % 8 = (q8 : Int)) := Lib.hid (by rw [← hq8']; omega)
        clear hq8'
        by_cases hz8 : q8 = 0
        · have g8 : ((q8 : Int) == 0) = true := beq_iff_eq.2 (by omega)
          have g8' : (q8 == 0) = true := beq_iff_eq.2 hz8
          clear hz8
          obtain ⟨pR, cR, hye', HG'⟩ := Mem.rf (Mem.only (M := [_, _, _, _]) HM104.out [0, 0, 0, 0] rfl)
          have HG := Lib.hid HG'
          clear HG'
          have hye := Lib.hid hye'
          clear hye'
          have hyl : Hid (ys2.length = S2.l.length) := Lib.hid (by rw [← hye.out, List.length_map])
          have hb2 : ys2.length ≤ S2.room := by rw [hyl.out]; exact hS2.out.len
          have hb3 : S2.room ≤ 3000 := hS2.out.room
          have hln : Hid ((S2.l.length : Int) = (ys2.length : Int)) := Lib.hid (by rw [hyl.out])
          have hsm : Hid (sameL S2.l (ys2.map fun x => x.d) = true) := Lib.hid (same_eq hye.out.symm)
          have gs : ((S2.sure : Int) != (S2.sure : Int)) = false := bne_self_eq_false _
          have gs' : (S2.sure != S2.sure) = false := bne_self_eq_false _
          have gl : ((ys2.length : Int) != (ys2.length : Int)) = false := bne_self_eq_false _
          have gl' : (ys2.length != ys2.length) = false := bne_self_eq_false _
          have gr : (((S2.room : Int) - (ys2.length : Int)) != ((S2.room : Int) - (ys2.length : Int))) = false := bne_self_eq_false _
          refine wp_region_M (fun k => k ∈ ([dF] : List Nat)) [(0, 1), (1, 1), (2, 1), (3, 1), (5, 0), (6, 0), (7, 0), (8, 2), (9, 0), (4, 3), (10, 1), (11, 1), (12, 1), (13, 1), (15, 0), (16, 0), (17, 0), (18, 2), (14, 3), (19, 1), (20, 1), (21, 1), (22, 1), (24, 0), (25, 0), (26, 0), (27, 2), (28, 0), (29, 0), (30, 0), (31, 2), (32, 0), (33, 0), (23, 3), (34, 1), (35, 1), (36, 1), (37, 1), (38, 1), (39, 1), (40, 1), (41, 1), (43, 0), (44, 0), (45, 0), (46, 2), (42, 3), (47, 3), (48, 1), (49, 1), (50, 1)] (by kernel_rfl) (by kernel_rfl) HG.out ?_
          intro W105 hm106
          have HM107 := Lib.hid hm106
          clear hm106
          refine wpS_this [0, 1, 2, 3] rfl (by kernel_rfl) (by simp only [pickL, nthL, List.cons_append, List.nil_append]; rfl) ?_
          repeat (go_big_quiet_step (fail))
          refine wpQuiet_nil ?_
          refine wpS_all [5, 6, 7] rfl (by kernel_rfl) (by simp only [pickL, nthL, List.cons_append, List.nil_append]; rfl) ?_
          repeat (go_big_quiet_step (fail))
          refine wpQuiet_nil ?_
          have Crb := Mem.cell HM107.out 0 rfl
          refine wpS_stay [8] rfl (by kernel_rfl) (by simp only [pickL, nthL, List.cons_append, List.nil_append]; rfl) ?_
          repeat (go_big_quiet_step (fail))
          refine wpQuiet_nil ?_
          clear Crb
          refine wpS_all [9] rfl (by kernel_rfl) (by simp only [pickL, nthL, List.cons_append, List.nil_append]; rfl) ?_
          repeat (go_big_quiet_step (fail))
          refine wpQuiet_nil ?_
          refine wpS_does1 (i := 4) (d := some 93) (rem := [_, _, _, _]) (out := [_, _, _, _, _]) rfl (by rfl) rfl Try.call22 (llen_d d S2 hS2.out) rfl HM107.out [2] rfl (covS_box 0 rfl covS_nil) rfl rfl ?_
          rintro W109 hm108 hg110
          rw [hln.out]
          have HM111 := Lib.hid hm108
          clear hm108
          simp only [Act.put, List.setIfInBounds_toArray, List.set_cons_succ, List.set_cons_zero]
          refine wpS_this [10, 11, 12, 13] rfl (by kernel_rfl) (by simp only [pickL, nthL, List.cons_append, List.nil_append]; rfl) ?_
          repeat (go_big_quiet_step (fail))
          refine wpQuiet_nil ?_
          refine wpS_all [15, 16, 17] rfl (by kernel_rfl) (by simp only [pickL, nthL, List.cons_append, List.nil_append]; rfl) ?_
          repeat (go_big_quiet_step (fail))
          refine wpQuiet_nil ?_
          have Crb := Mem.cell HM111.out 1 rfl
          refine wpS_stay [18] rfl (by kernel_rfl) (by simp only [pickL, nthL, List.cons_append, List.nil_append]; rfl) ?_
          repeat (go_big_quiet_step (fail))
          refine wpQuiet_nil ?_
          clear Crb
          refine wpS_does1 (i := 14) (d := some 103) (rem := [_, _, _, _]) (out := [_, _, _, _, _]) rfl (by rfl) rfl Try.call23 (lsure_d d S2 hS2.out) rfl HM111.out [0] rfl (covS_box 0 rfl covS_nil) rfl rfl ?_
          rintro W113 hm112 hg114
          have HM115 := Lib.hid hm112
          clear hm112
          simp only [Act.put, List.setIfInBounds_toArray, List.set_cons_succ, List.set_cons_zero]
          refine wpS_this [19, 20, 21, 22] rfl (by kernel_rfl) (by simp only [pickL, nthL, List.cons_append, List.nil_append]; rfl) ?_
          repeat (go_big_quiet_step (fail))
          refine wpQuiet_nil ?_
          refine wpS_all [24, 25, 26] rfl (by kernel_rfl) (by simp only [pickL, nthL, List.cons_append, List.nil_append]; rfl) ?_
          repeat (go_big_quiet_step (fail))
          refine wpQuiet_nil ?_
          have Crb := Mem.cell HM115.out 1 rfl
          refine wpS_stay [27] rfl (by kernel_rfl) (by simp only [pickL, nthL, List.cons_append, List.nil_append]; rfl) ?_
          repeat (go_big_quiet_step (fail))
          refine wpQuiet_nil ?_
          clear Crb
          refine wpS_all [28, 29, 30] rfl (by kernel_rfl) (by simp only [pickL, nthL, List.cons_append, List.nil_append]; rfl) ?_
          repeat (go_big_quiet_step (fail))
          refine wpQuiet_nil ?_
          have Crb := Mem.cell HM115.out 1 rfl
          refine wpS_stay [31] rfl (by kernel_rfl) (by simp only [pickL, nthL, List.cons_append, List.nil_append]; rfl) ?_
          repeat (go_big_quiet_step (fail))
          refine wpQuiet_nil ?_
          clear Crb
          refine wpS_all [32, 33] rfl (by kernel_rfl) (by simp only [pickL, nthL, List.cons_append, List.nil_append]; rfl) ?_
          repeat (go_big_quiet_step (fail))
          refine wpQuiet_nil ?_
          refine wpS_does1 (i := 23) (d := some 112) (rem := [_, _, _, _]) (out := [_, _, _, _, _]) rfl (by rfl) rfl Try.call24 (lroom_d d S2 hS2.out) rfl HM115.out [0] rfl (covS_box 0 rfl covS_nil) rfl rfl ?_
          rintro W117 hm116 hg118
          rw [hln.out]
          have HM119 := Lib.hid hm116
          clear hm116
          simp only [Act.put, List.setIfInBounds_toArray, List.set_cons_succ, List.set_cons_zero]
          refine wpS_this [34, 35, 36, 37] rfl (by kernel_rfl) (by simp only [pickL, nthL, List.cons_append, List.nil_append]; rfl) ?_
          repeat (go_big_quiet_step (fail))
          refine wpQuiet_nil ?_
          refine wpS_this [38] rfl (by kernel_rfl) (by simp only [pickL, nthL, List.cons_append, List.nil_append]; rfl) ?_
          repeat (go_big_quiet_step (fail))
          refine wpQuiet_nil ?_
          rw [hqi.out]
          refine wpS_this [39, 40, 41] rfl (by kernel_rfl) (by simp only [pickL, nthL, List.cons_append, List.nil_append]; rfl) ?_
          repeat (go_big_quiet_step (fail))
          refine wpQuiet_nil ?_
          refine wpS_all [43, 44, 45] rfl (by kernel_rfl) (by simp only [pickL, nthL, List.cons_append, List.nil_append]; rfl) ?_
          repeat (go_big_quiet_step (fail))
          refine wpQuiet_nil ?_
          have Crb := Mem.cell HM119.out 1 rfl
          refine wpS_stay [46] rfl (by kernel_rfl) (by simp only [pickL, nthL, List.cons_append, List.nil_append]; rfl) ?_
          repeat (go_big_quiet_step (fail))
          refine wpQuiet_nil ?_
          clear Crb
          refine wpS_doesU1 (i := 42) (d := some 131) (rem := [_, _, _, _]) rfl (by rfl) rfl Try.call26 (lall_d d S2 hS2.out) rfl HM119.out [0] rfl (covS_box 0 rfl covS_nil) (fun _ => rfl) rfl ?_
          rintro u123 W121 hm120 hg122
          obtain ⟨zs, pa, ca, has', rfl, hm120q⟩ := Mem.alR hm120
          clear hm120
          have has := Lib.hid has'
          clear has'
          have HM124 := Lib.hid hm120q
          clear hm120q
          simp only [Act.put, List.setIfInBounds_toArray, List.set_cons_succ, List.set_cons_zero]
          refine wpS_does2 (i := 47) (d := some 136) (rem := [_, _, _]) (out := [_, _, _, _, _, _, _]) rfl (by rfl) rfl Try.call25 (Does.ofList (sameL_d (listT [_, _, _, _]) _ _ zs ys2 (vRowE 0 rfl rowT_reads) (vRowE 2 rfl rowT_reads) (all_reads 1 rfl (lg_reads hS2.out (lg_all has.out))) (all_reads 3 rfl hy2.out) (by have := lg_len has.out; have := hS2.out.len; have := hS2.out.room; omega))) rfl rfl HM124.out [0, 0, 2, 2] rfl (covS_box 1 rfl covS_nil) rfl rfl ?_
          rintro W126 hm125 hg127
          rw [has.out, hsm.out]
          have HM128 := Lib.hid hm125
          clear hm125
          simp only [Act.put, List.setIfInBounds_toArray, List.set_cons_succ, List.set_cons_zero]
          refine wpS_this [48, 49, 50] rfl (by kernel_rfl) (by simp only [pickL, nthL, List.cons_append, List.nil_append]; rfl) ?_
          repeat (go_big_quiet_step (fail))
          refine wpQuiet_nil ?_
          refine wpS_nil ?_
          refine then_normal ?_
          refine wp_cond_false rfl ?_
          refine wp_skip ?_
          refine block_normal ?_
          refine then_normal ?_
          refine wp_region_N [(0, 1), (1, 1)] (by kernel_rfl) ?_
          refine wpS_this [0, 1] rfl (by kernel_rfl) (by simp only [pickL, nthL, List.cons_append, List.nil_append]; rfl) ?_
          repeat (go_big_quiet_step (fail))
          refine wpQuiet_nil ?_
          refine wpS_nil ?_
          refine then_normal ?_
          refine ⟨by kernel_rfl, ?_⟩
          exact ⟨l.length - (k + 1), by omega, k + 1, S2, ys2, rfl, rfl, hk1, hS2.out, hy2.out, Mem.only (M := [_, _, _]) (Mem.toRf hye.out rfl rfl rfl (Mem.only (M := [_, _, _, _]) HM128.out [5, 2, 3, 2] rfl)) [1, 0, 0] rfl⟩
        · have g8 : ((q8 : Int) == 0) = false := beq_eq_false_iff_ne.2 (by omega)
          have g8' : (q8 == 0) = false := beq_eq_false_iff_ne.2 hz8
          clear hz8
          obtain ⟨pR, cR, hye', HG'⟩ := Mem.rf (Mem.only (M := [_, _, _, _]) HM104.out [0, 0, 0, 0] rfl)
          have HG := Lib.hid HG'
          clear HG'
          have hye := Lib.hid hye'
          clear hye'
          have hyl : Hid (ys2.length = S2.l.length) := Lib.hid (by rw [← hye.out, List.length_map])
          have hb2 : ys2.length ≤ S2.room := by rw [hyl.out]; exact hS2.out.len
          have hb3 : S2.room ≤ 3000 := hS2.out.room
          have hln : Hid ((S2.l.length : Int) = (ys2.length : Int)) := Lib.hid (by rw [hyl.out])
          have hsm : Hid (sameL S2.l (ys2.map fun x => x.d) = true) := Lib.hid (same_eq hye.out.symm)
          have gs : ((S2.sure : Int) != (S2.sure : Int)) = false := bne_self_eq_false _
          have gs' : (S2.sure != S2.sure) = false := bne_self_eq_false _
          have gl : ((ys2.length : Int) != (ys2.length : Int)) = false := bne_self_eq_false _
          have gl' : (ys2.length != ys2.length) = false := bne_self_eq_false _
          have gr : (((S2.room : Int) - (ys2.length : Int)) != ((S2.room : Int) - (ys2.length : Int))) = false := bne_self_eq_false _
          refine wp_region_M (fun k => k ∈ ([dF] : List Nat)) [(0, 1), (1, 1), (2, 1), (3, 1), (5, 0), (6, 0), (7, 0), (8, 2), (9, 0), (4, 3), (10, 1), (11, 1), (12, 1), (13, 1), (15, 0), (16, 0), (17, 0), (18, 2), (14, 3), (19, 1), (20, 1), (21, 1), (22, 1), (24, 0), (25, 0), (26, 0), (27, 2), (28, 0), (29, 0), (30, 0), (31, 2), (32, 0), (33, 0), (23, 3), (34, 1), (35, 1), (36, 1), (37, 1), (38, 1), (39, 1), (40, 1), (41, 1), (43, 0), (44, 0), (45, 0), (46, 2), (42, 3), (47, 3), (48, 1), (49, 1), (50, 1)] (by kernel_rfl) (by kernel_rfl) HG.out ?_
          intro W129 hm130
          have HM131 := Lib.hid hm130
          clear hm130
          refine wpS_this [0, 1, 2, 3] rfl (by kernel_rfl) (by simp only [pickL, nthL, List.cons_append, List.nil_append]; rfl) ?_
          repeat (go_big_quiet_step (fail))
          refine wpQuiet_nil ?_
          refine wpS_all [5, 6, 7] rfl (by kernel_rfl) (by simp only [pickL, nthL, List.cons_append, List.nil_append]; rfl) ?_
          repeat (go_big_quiet_step (fail))
          refine wpQuiet_nil ?_
          have Crb := Mem.cell HM131.out 0 rfl
          refine wpS_stay [8] rfl (by kernel_rfl) (by simp only [pickL, nthL, List.cons_append, List.nil_append]; rfl) ?_
          repeat (go_big_quiet_step (fail))
          refine wpQuiet_nil ?_
          clear Crb
          refine wpS_all [9] rfl (by kernel_rfl) (by simp only [pickL, nthL, List.cons_append, List.nil_append]; rfl) ?_
          repeat (go_big_quiet_step (fail))
          refine wpQuiet_nil ?_
          refine wpS_does1 (i := 4) (d := some 93) (rem := [_, _, _, _]) (out := [_, _, _, _, _]) rfl (by rfl) rfl Try.call22 (llen_d d S2 hS2.out) rfl HM131.out [2] rfl (covS_box 0 rfl covS_nil) rfl rfl ?_
          rintro W133 hm132 hg134
          rw [hln.out]
          have HM135 := Lib.hid hm132
          clear hm132
          simp only [Act.put, List.setIfInBounds_toArray, List.set_cons_succ, List.set_cons_zero]
          refine wpS_this [10, 11, 12, 13] rfl (by kernel_rfl) (by simp only [pickL, nthL, List.cons_append, List.nil_append]; rfl) ?_
          repeat (go_big_quiet_step (fail))
          refine wpQuiet_nil ?_
          refine wpS_all [15, 16, 17] rfl (by kernel_rfl) (by simp only [pickL, nthL, List.cons_append, List.nil_append]; rfl) ?_
          repeat (go_big_quiet_step (fail))
          refine wpQuiet_nil ?_
          have Crb := Mem.cell HM135.out 1 rfl
          refine wpS_stay [18] rfl (by kernel_rfl) (by simp only [pickL, nthL, List.cons_append, List.nil_append]; rfl) ?_
          repeat (go_big_quiet_step (fail))
          refine wpQuiet_nil ?_
          clear Crb
          refine wpS_does1 (i := 14) (d := some 103) (rem := [_, _, _, _]) (out := [_, _, _, _, _]) rfl (by rfl) rfl Try.call23 (lsure_d d S2 hS2.out) rfl HM135.out [0] rfl (covS_box 0 rfl covS_nil) rfl rfl ?_
          rintro W137 hm136 hg138
          have HM139 := Lib.hid hm136
          clear hm136
          simp only [Act.put, List.setIfInBounds_toArray, List.set_cons_succ, List.set_cons_zero]
          refine wpS_this [19, 20, 21, 22] rfl (by kernel_rfl) (by simp only [pickL, nthL, List.cons_append, List.nil_append]; rfl) ?_
          repeat (go_big_quiet_step (fail))
          refine wpQuiet_nil ?_
          refine wpS_all [24, 25, 26] rfl (by kernel_rfl) (by simp only [pickL, nthL, List.cons_append, List.nil_append]; rfl) ?_
          repeat (go_big_quiet_step (fail))
          refine wpQuiet_nil ?_
          have Crb := Mem.cell HM139.out 1 rfl
          refine wpS_stay [27] rfl (by kernel_rfl) (by simp only [pickL, nthL, List.cons_append, List.nil_append]; rfl) ?_
          repeat (go_big_quiet_step (fail))
          refine wpQuiet_nil ?_
          clear Crb
          refine wpS_all [28, 29, 30] rfl (by kernel_rfl) (by simp only [pickL, nthL, List.cons_append, List.nil_append]; rfl) ?_
          repeat (go_big_quiet_step (fail))
          refine wpQuiet_nil ?_
          have Crb := Mem.cell HM139.out 1 rfl
          refine wpS_stay [31] rfl (by kernel_rfl) (by simp only [pickL, nthL, List.cons_append, List.nil_append]; rfl) ?_
          repeat (go_big_quiet_step (fail))
          refine wpQuiet_nil ?_
          clear Crb
          refine wpS_all [32, 33] rfl (by kernel_rfl) (by simp only [pickL, nthL, List.cons_append, List.nil_append]; rfl) ?_
          repeat (go_big_quiet_step (fail))
          refine wpQuiet_nil ?_
          refine wpS_does1 (i := 23) (d := some 112) (rem := [_, _, _, _]) (out := [_, _, _, _, _]) rfl (by rfl) rfl Try.call24 (lroom_d d S2 hS2.out) rfl HM139.out [0] rfl (covS_box 0 rfl covS_nil) rfl rfl ?_
          rintro W141 hm140 hg142
          rw [hln.out]
          have HM143 := Lib.hid hm140
          clear hm140
          simp only [Act.put, List.setIfInBounds_toArray, List.set_cons_succ, List.set_cons_zero]
          refine wpS_this [34, 35, 36, 37] rfl (by kernel_rfl) (by simp only [pickL, nthL, List.cons_append, List.nil_append]; rfl) ?_
          repeat (go_big_quiet_step (fail))
          refine wpQuiet_nil ?_
          refine wpS_this [38] rfl (by kernel_rfl) (by simp only [pickL, nthL, List.cons_append, List.nil_append]; rfl) ?_
          repeat (go_big_quiet_step (fail))
          refine wpQuiet_nil ?_
          rw [hqi.out]
          refine wpS_this [39, 40, 41] rfl (by kernel_rfl) (by simp only [pickL, nthL, List.cons_append, List.nil_append]; rfl) ?_
          repeat (go_big_quiet_step (fail))
          refine wpQuiet_nil ?_
          refine wpS_all [43, 44, 45] rfl (by kernel_rfl) (by simp only [pickL, nthL, List.cons_append, List.nil_append]; rfl) ?_
          repeat (go_big_quiet_step (fail))
          refine wpQuiet_nil ?_
          have Crb := Mem.cell HM143.out 1 rfl
          refine wpS_stay [46] rfl (by kernel_rfl) (by simp only [pickL, nthL, List.cons_append, List.nil_append]; rfl) ?_
          repeat (go_big_quiet_step (fail))
          refine wpQuiet_nil ?_
          clear Crb
          refine wpS_skip (i := 42) (d := some 131) rfl (by rfl) rfl ?_
          simp only [Act.put, List.setIfInBounds_toArray, List.set_cons_succ, List.set_cons_zero]
          refine wpS_skip (i := 47) (d := some 136) rfl (by rfl) rfl ?_
          simp only [Act.put, List.setIfInBounds_toArray, List.set_cons_succ, List.set_cons_zero]
          refine wpS_this [48, 49, 50] rfl (by kernel_rfl) (by simp only [pickL, nthL, List.cons_append, List.nil_append]; rfl) ?_
          repeat (go_big_quiet_step (fail))
          refine wpQuiet_nil ?_
          refine wpS_nil ?_
          refine then_normal ?_
          refine wp_cond_false rfl ?_
          refine wp_skip ?_
          refine block_normal ?_
          refine then_normal ?_
          refine wp_region_N [(0, 1), (1, 1)] (by kernel_rfl) ?_
          refine wpS_this [0, 1] rfl (by kernel_rfl) (by simp only [pickL, nthL, List.cons_append, List.nil_append]; rfl) ?_
          repeat (go_big_quiet_step (fail))
          refine wpQuiet_nil ?_
          refine wpS_nil ?_
          refine then_normal ?_
          refine ⟨by kernel_rfl, ?_⟩
          exact ⟨l.length - (k + 1), by omega, k + 1, S2, ys2, rfl, rfl, hk1, hS2.out, hy2.out, Mem.only (M := [_, _, _]) (Mem.toRf hye.out rfl rfl rfl (Mem.only (M := [_, _, _, _]) HM143.out [1, 1, 0, 0] rfl)) [1, 0, 0] rfl⟩
      · have ge : (y.op == 0) = false := beq_eq_false_iff_ne.2 ho
        have ge1 : (y.op == 1) = false := beq_eq_false_iff_ne.2 ho2
        clear ho ho2
        obtain ⟨S2, e, hop', hS2'⟩ : ∃ x e, writeL S y.x.d = (x, e) ∧ LgOk x := ⟨_, _, rfl, hS.out.write y.x.d⟩
        obtain ⟨ys2, hyt'⟩ : ∃ x, (if ((S2, e) : Lg × Int).2 = 0 then ys ++ [y.x] else ys) = x := ⟨_, rfl⟩
        have hy2' : ∀ y ∈ ys2, DxR (oldT W0) y := by
            rw [← hyt']
            intro z hz
            split at hz
            · rw [List.mem_append, List.mem_singleton] at hz
              rcases hz with hz | rfl
              · exact hys.out z hz
              · exact (DxR.old hyq.out.1 hyv.out hyq.out.2 hyr.out)
            · exact hys.out z hz
        have hop := Lib.hid hop'
        clear hop'
        have hS2 := Lib.hid hS2'
        clear hS2'
        have hy2 := Lib.hid hy2'
        clear hy2'
        have hyt := Lib.hid hyt'
        clear hyt'
        have gee : (e == e) = true := beq_self_eq_true _
        refine wp_region_N [(0, 1), (1, 1)] (by kernel_rfl) ?_
        refine wpS_this [0, 1] rfl (by kernel_rfl) (by simp only [pickL, nthL, List.cons_append, List.nil_append]; rfl) ?_
        repeat (go_big_quiet_step (fail))
        refine wpQuiet_nil ?_
        refine wpS_nil ?_
        refine then_normal ?_
        refine wp_cond_false rfl ?_
        refine wp_seq ?_
        refine wp_region_N [(0, 1), (1, 1)] (by kernel_rfl) ?_
        refine wpS_this [0, 1] rfl (by kernel_rfl) (by simp only [pickL, nthL, List.cons_append, List.nil_append]; rfl) ?_
        repeat (go_big_quiet_step (fail))
        refine wpQuiet_nil ?_
        refine wpS_nil ?_
        refine then_normal ?_
        refine wp_cond_false rfl ?_
        refine wp_region_M (fun k => k ∈ ([b25] : List Nat)) [(0, 1), (1, 1), (2, 1), (3, 1), (4, 1), (6, 0), (7, 0), (8, 2), (5, 3), (9, 3), (10, 1), (11, 1), (12, 1)] (by kernel_rfl) (by kernel_rfl) HM48.out ?_
        intro W144 hm145
        have HM146 := Lib.hid hm145
        clear hm145
        refine wpS_this [0, 1, 2, 3] rfl (by kernel_rfl) (by simp only [pickL, nthL, List.cons_append, List.nil_append]; rfl) ?_
        repeat (go_big_quiet_step (fail))
        refine wpQuiet_nil ?_
        refine wpS_loadA (i := 4) (d := some 57) (cells := y.x.enc) rfl (by rfl) rfl rfl (HM146.out.part 1 rfl (fun _ _ h => sub_app [_, _] _ [] h)) Try.underlying43 rfl (by kernel_rfl) rfl ?_
        simp only [Act.put, List.setIfInBounds_toArray, List.set_cons_succ, List.set_cons_zero]
        refine wpS_all [6, 7] rfl (by kernel_rfl) (by simp only [pickL, nthL, List.cons_append, List.nil_append]; rfl) ?_
        repeat (go_big_quiet_step (fail))
        refine wpQuiet_nil ?_
        refine wpS_loadA2 (i := 8) (d := some 61) (cells := y.x.enc) rfl (by rfl) rfl rfl (by simp) (HM146.out.part 1 rfl (fun _ _ h => sub_app [_, _] _ [] h)) Try.underlying43 rfl (by kernel_rfl) rfl ?_
        simp only [Act.put, List.setIfInBounds_toArray, List.set_cons_succ, List.set_cons_zero]
        refine wpS_does2 (i := 5) (d := some 58) (rem := [_, _]) (out := [_, _, _, _]) rfl (by rfl) rfl Try.call20 (lwrite_d (oldT W0) d S y.x.d _ _ (DxR.old hyq.out.1 hyv.out hyq.out.2 hyr.out) hS.out) rfl rfl HM146.out [2, 0] rfl (covS_box 0 rfl covS_nil) rfl rfl ?_
        rintro W148 hm147 hg149
        rw [hop.out] at hm147 ⊢
        have HM150 := Lib.hid hm147
        clear hm147
        simp only [Act.put, List.setIfInBounds_toArray, List.set_cons_succ, List.set_cons_zero]
        refine wpS_does2 (i := 9) (d := some 62) (rem := [_, _]) (out := [_, _, _, _]) rfl (by rfl) rfl Try.call21 (rwrite_d (oldT W0) dF S ys y.x (DxR.old hyq.out.1 hyv.out hyq.out.2 hyr.out) hS.out) rfl rfl HM150.out [3, 1] rfl (covS_box 1 rfl covS_nil) rfl rfl ?_
        rintro W152 hm151 hg153
        rw [hop.out] at hm151 ⊢
        rw [hyt.out] at hm151
        have HM154 := Lib.hid hm151
        clear hm151
        simp only [Act.put, List.setIfInBounds_toArray, List.set_cons_succ, List.set_cons_zero]
        refine wpS_this [10, 11, 12] rfl (by kernel_rfl) (by simp only [pickL, nthL, List.cons_append, List.nil_append]; rfl) ?_
        repeat (go_big_quiet_step (fail))
        refine wpQuiet_nil ?_
        refine wpS_nil ?_
        refine block_normal ?_
        refine then_normal ?_
        refine wp_seq ?_
        obtain ⟨q8, hq8'⟩ : ∃ x, k % 8 = x := ⟨_, rfl⟩
        have hqi : Hid ((k : Int) % 8 = (q8 : Int)) := Lib.hid (by rw [← hq8']; omega)
        clear hq8'
        by_cases hz8 : q8 = 0
        · have g8 : ((q8 : Int) == 0) = true := beq_iff_eq.2 (by omega)
          have g8' : (q8 == 0) = true := beq_iff_eq.2 hz8
          clear hz8
          obtain ⟨pR, cR, hye', HG'⟩ := Mem.rf (Mem.only (M := [_, _, _, _]) HM154.out [0, 0, 0, 0] rfl)
          have HG := Lib.hid HG'
          clear HG'
          have hye := Lib.hid hye'
          clear hye'
          have hyl : Hid (ys2.length = S2.l.length) := Lib.hid (by rw [← hye.out, List.length_map])
          have hb2 : ys2.length ≤ S2.room := by rw [hyl.out]; exact hS2.out.len
          have hb3 : S2.room ≤ 3000 := hS2.out.room
          have hln : Hid ((S2.l.length : Int) = (ys2.length : Int)) := Lib.hid (by rw [hyl.out])
          have hsm : Hid (sameL S2.l (ys2.map fun x => x.d) = true) := Lib.hid (same_eq hye.out.symm)
          have gs : ((S2.sure : Int) != (S2.sure : Int)) = false := bne_self_eq_false _
          have gs' : (S2.sure != S2.sure) = false := bne_self_eq_false _
          have gl : ((ys2.length : Int) != (ys2.length : Int)) = false := bne_self_eq_false _
          have gl' : (ys2.length != ys2.length) = false := bne_self_eq_false _
          have gr : (((S2.room : Int) - (ys2.length : Int)) != ((S2.room : Int) - (ys2.length : Int))) = false := bne_self_eq_false _
          refine wp_region_M (fun k => k ∈ ([dF] : List Nat)) [(0, 1), (1, 1), (2, 1), (3, 1), (5, 0), (6, 0), (7, 0), (8, 2), (9, 0), (4, 3), (10, 1), (11, 1), (12, 1), (13, 1), (15, 0), (16, 0), (17, 0), (18, 2), (14, 3), (19, 1), (20, 1), (21, 1), (22, 1), (24, 0), (25, 0), (26, 0), (27, 2), (28, 0), (29, 0), (30, 0), (31, 2), (32, 0), (33, 0), (23, 3), (34, 1), (35, 1), (36, 1), (37, 1), (38, 1), (39, 1), (40, 1), (41, 1), (43, 0), (44, 0), (45, 0), (46, 2), (42, 3), (47, 3), (48, 1), (49, 1), (50, 1)] (by kernel_rfl) (by kernel_rfl) HG.out ?_
          intro W155 hm156
          have HM157 := Lib.hid hm156
          clear hm156
          refine wpS_this [0, 1, 2, 3] rfl (by kernel_rfl) (by simp only [pickL, nthL, List.cons_append, List.nil_append]; rfl) ?_
          repeat (go_big_quiet_step (fail))
          refine wpQuiet_nil ?_
          refine wpS_all [5, 6, 7] rfl (by kernel_rfl) (by simp only [pickL, nthL, List.cons_append, List.nil_append]; rfl) ?_
          repeat (go_big_quiet_step (fail))
          refine wpQuiet_nil ?_
          have Crb := Mem.cell HM157.out 0 rfl
          refine wpS_stay [8] rfl (by kernel_rfl) (by simp only [pickL, nthL, List.cons_append, List.nil_append]; rfl) ?_
          repeat (go_big_quiet_step (fail))
          refine wpQuiet_nil ?_
          clear Crb
          refine wpS_all [9] rfl (by kernel_rfl) (by simp only [pickL, nthL, List.cons_append, List.nil_append]; rfl) ?_
          repeat (go_big_quiet_step (fail))
          refine wpQuiet_nil ?_
          refine wpS_does1 (i := 4) (d := some 93) (rem := [_, _, _, _]) (out := [_, _, _, _, _]) rfl (by rfl) rfl Try.call22 (llen_d d S2 hS2.out) rfl HM157.out [3] rfl (covS_box 0 rfl covS_nil) rfl rfl ?_
          rintro W159 hm158 hg160
          rw [hln.out]
          have HM161 := Lib.hid hm158
          clear hm158
          simp only [Act.put, List.setIfInBounds_toArray, List.set_cons_succ, List.set_cons_zero]
          refine wpS_this [10, 11, 12, 13] rfl (by kernel_rfl) (by simp only [pickL, nthL, List.cons_append, List.nil_append]; rfl) ?_
          repeat (go_big_quiet_step (fail))
          refine wpQuiet_nil ?_
          refine wpS_all [15, 16, 17] rfl (by kernel_rfl) (by simp only [pickL, nthL, List.cons_append, List.nil_append]; rfl) ?_
          repeat (go_big_quiet_step (fail))
          refine wpQuiet_nil ?_
          have Crb := Mem.cell HM161.out 1 rfl
          refine wpS_stay [18] rfl (by kernel_rfl) (by simp only [pickL, nthL, List.cons_append, List.nil_append]; rfl) ?_
          repeat (go_big_quiet_step (fail))
          refine wpQuiet_nil ?_
          clear Crb
          refine wpS_does1 (i := 14) (d := some 103) (rem := [_, _, _, _]) (out := [_, _, _, _, _]) rfl (by rfl) rfl Try.call23 (lsure_d d S2 hS2.out) rfl HM161.out [0] rfl (covS_box 0 rfl covS_nil) rfl rfl ?_
          rintro W163 hm162 hg164
          have HM165 := Lib.hid hm162
          clear hm162
          simp only [Act.put, List.setIfInBounds_toArray, List.set_cons_succ, List.set_cons_zero]
          refine wpS_this [19, 20, 21, 22] rfl (by kernel_rfl) (by simp only [pickL, nthL, List.cons_append, List.nil_append]; rfl) ?_
          repeat (go_big_quiet_step (fail))
          refine wpQuiet_nil ?_
          refine wpS_all [24, 25, 26] rfl (by kernel_rfl) (by simp only [pickL, nthL, List.cons_append, List.nil_append]; rfl) ?_
          repeat (go_big_quiet_step (fail))
          refine wpQuiet_nil ?_
          have Crb := Mem.cell HM165.out 1 rfl
          refine wpS_stay [27] rfl (by kernel_rfl) (by simp only [pickL, nthL, List.cons_append, List.nil_append]; rfl) ?_
          repeat (go_big_quiet_step (fail))
          refine wpQuiet_nil ?_
          clear Crb
          refine wpS_all [28, 29, 30] rfl (by kernel_rfl) (by simp only [pickL, nthL, List.cons_append, List.nil_append]; rfl) ?_
          repeat (go_big_quiet_step (fail))
          refine wpQuiet_nil ?_
          have Crb := Mem.cell HM165.out 1 rfl
          refine wpS_stay [31] rfl (by kernel_rfl) (by simp only [pickL, nthL, List.cons_append, List.nil_append]; rfl) ?_
          repeat (go_big_quiet_step (fail))
          refine wpQuiet_nil ?_
          clear Crb
          refine wpS_all [32, 33] rfl (by kernel_rfl) (by simp only [pickL, nthL, List.cons_append, List.nil_append]; rfl) ?_
          repeat (go_big_quiet_step (fail))
          refine wpQuiet_nil ?_
          refine wpS_does1 (i := 23) (d := some 112) (rem := [_, _, _, _]) (out := [_, _, _, _, _]) rfl (by rfl) rfl Try.call24 (lroom_d d S2 hS2.out) rfl HM165.out [0] rfl (covS_box 0 rfl covS_nil) rfl rfl ?_
          rintro W167 hm166 hg168
          rw [hln.out]
          have HM169 := Lib.hid hm166
          clear hm166
          simp only [Act.put, List.setIfInBounds_toArray, List.set_cons_succ, List.set_cons_zero]
          refine wpS_this [34, 35, 36, 37] rfl (by kernel_rfl) (by simp only [pickL, nthL, List.cons_append, List.nil_append]; rfl) ?_
          repeat (go_big_quiet_step (fail))
          refine wpQuiet_nil ?_
          refine wpS_this [38] rfl (by kernel_rfl) (by simp only [pickL, nthL, List.cons_append, List.nil_append]; rfl) ?_
          repeat (go_big_quiet_step (fail))
          refine wpQuiet_nil ?_
          rw [hqi.out]
          refine wpS_this [39, 40, 41] rfl (by kernel_rfl) (by simp only [pickL, nthL, List.cons_append, List.nil_append]; rfl) ?_
          repeat (go_big_quiet_step (fail))
          refine wpQuiet_nil ?_
          refine wpS_all [43, 44, 45] rfl (by kernel_rfl) (by simp only [pickL, nthL, List.cons_append, List.nil_append]; rfl) ?_
          repeat (go_big_quiet_step (fail))
          refine wpQuiet_nil ?_
          have Crb := Mem.cell HM169.out 1 rfl
          refine wpS_stay [46] rfl (by kernel_rfl) (by simp only [pickL, nthL, List.cons_append, List.nil_append]; rfl) ?_
          repeat (go_big_quiet_step (fail))
          refine wpQuiet_nil ?_
          clear Crb
          refine wpS_doesU1 (i := 42) (d := some 131) (rem := [_, _, _, _]) rfl (by rfl) rfl Try.call26 (lall_d d S2 hS2.out) rfl HM169.out [0] rfl (covS_box 0 rfl covS_nil) (fun _ => rfl) rfl ?_
          rintro u173 W171 hm170 hg172
          obtain ⟨zs, pa, ca, has', rfl, hm170q⟩ := Mem.alR hm170
          clear hm170
          have has := Lib.hid has'
          clear has'
          have HM174 := Lib.hid hm170q
          clear hm170q
          simp only [Act.put, List.setIfInBounds_toArray, List.set_cons_succ, List.set_cons_zero]
          refine wpS_does2 (i := 47) (d := some 136) (rem := [_, _, _]) (out := [_, _, _, _, _, _, _]) rfl (by rfl) rfl Try.call25 (Does.ofList (sameL_d (listT [_, _, _, _]) _ _ zs ys2 (vRowE 0 rfl rowT_reads) (vRowE 2 rfl rowT_reads) (all_reads 1 rfl (lg_reads hS2.out (lg_all has.out))) (all_reads 3 rfl hy2.out) (by have := lg_len has.out; have := hS2.out.len; have := hS2.out.room; omega))) rfl rfl HM174.out [0, 0, 2, 2] rfl (covS_box 1 rfl covS_nil) rfl rfl ?_
          rintro W176 hm175 hg177
          rw [has.out, hsm.out]
          have HM178 := Lib.hid hm175
          clear hm175
          simp only [Act.put, List.setIfInBounds_toArray, List.set_cons_succ, List.set_cons_zero]
          refine wpS_this [48, 49, 50] rfl (by kernel_rfl) (by simp only [pickL, nthL, List.cons_append, List.nil_append]; rfl) ?_
          repeat (go_big_quiet_step (fail))
          refine wpQuiet_nil ?_
          refine wpS_nil ?_
          refine then_normal ?_
          refine wp_cond_false rfl ?_
          refine wp_skip ?_
          refine block_normal ?_
          refine then_normal ?_
          refine wp_region_N [(0, 1), (1, 1)] (by kernel_rfl) ?_
          refine wpS_this [0, 1] rfl (by kernel_rfl) (by simp only [pickL, nthL, List.cons_append, List.nil_append]; rfl) ?_
          repeat (go_big_quiet_step (fail))
          refine wpQuiet_nil ?_
          refine wpS_nil ?_
          refine then_normal ?_
          refine ⟨by kernel_rfl, ?_⟩
          exact ⟨l.length - (k + 1), by omega, k + 1, S2, ys2, rfl, rfl, hk1, hS2.out, hy2.out, Mem.only (M := [_, _, _]) (Mem.toRf hye.out rfl rfl rfl (Mem.only (M := [_, _, _, _]) HM178.out [5, 2, 3, 2] rfl)) [1, 0, 0] rfl⟩
        · have g8 : ((q8 : Int) == 0) = false := beq_eq_false_iff_ne.2 (by omega)
          have g8' : (q8 == 0) = false := beq_eq_false_iff_ne.2 hz8
          clear hz8
          obtain ⟨pR, cR, hye', HG'⟩ := Mem.rf (Mem.only (M := [_, _, _, _]) HM154.out [0, 0, 0, 0] rfl)
          have HG := Lib.hid HG'
          clear HG'
          have hye := Lib.hid hye'
          clear hye'
          have hyl : Hid (ys2.length = S2.l.length) := Lib.hid (by rw [← hye.out, List.length_map])
          have hb2 : ys2.length ≤ S2.room := by rw [hyl.out]; exact hS2.out.len
          have hb3 : S2.room ≤ 3000 := hS2.out.room
          have hln : Hid ((S2.l.length : Int) = (ys2.length : Int)) := Lib.hid (by rw [hyl.out])
          have hsm : Hid (sameL S2.l (ys2.map fun x => x.d) = true) := Lib.hid (same_eq hye.out.symm)
          have gs : ((S2.sure : Int) != (S2.sure : Int)) = false := bne_self_eq_false _
          have gs' : (S2.sure != S2.sure) = false := bne_self_eq_false _
          have gl : ((ys2.length : Int) != (ys2.length : Int)) = false := bne_self_eq_false _
          have gl' : (ys2.length != ys2.length) = false := bne_self_eq_false _
          have gr : (((S2.room : Int) - (ys2.length : Int)) != ((S2.room : Int) - (ys2.length : Int))) = false := bne_self_eq_false _
          refine wp_region_M (fun k => k ∈ ([dF] : List Nat)) [(0, 1), (1, 1), (2, 1), (3, 1), (5, 0), (6, 0), (7, 0), (8, 2), (9, 0), (4, 3), (10, 1), (11, 1), (12, 1), (13, 1), (15, 0), (16, 0), (17, 0), (18, 2), (14, 3), (19, 1), (20, 1), (21, 1), (22, 1), (24, 0), (25, 0), (26, 0), (27, 2), (28, 0), (29, 0), (30, 0), (31, 2), (32, 0), (33, 0), (23, 3), (34, 1), (35, 1), (36, 1), (37, 1), (38, 1), (39, 1), (40, 1), (41, 1), (43, 0), (44, 0), (45, 0), (46, 2), (42, 3), (47, 3), (48, 1), (49, 1), (50, 1)] (by kernel_rfl) (by kernel_rfl) HG.out ?_
          intro W179 hm180
          have HM181 := Lib.hid hm180
          clear hm180
          refine wpS_this [0, 1, 2, 3] rfl (by kernel_rfl) (by simp only [pickL, nthL, List.cons_append, List.nil_append]; rfl) ?_
          repeat (go_big_quiet_step (fail))
          refine wpQuiet_nil ?_
          refine wpS_all [5, 6, 7] rfl (by kernel_rfl) (by simp only [pickL, nthL, List.cons_append, List.nil_append]; rfl) ?_
          repeat (go_big_quiet_step (fail))
          refine wpQuiet_nil ?_
          have Crb := Mem.cell HM181.out 0 rfl
          refine wpS_stay [8] rfl (by kernel_rfl) (by simp only [pickL, nthL, List.cons_append, List.nil_append]; rfl) ?_
          repeat (go_big_quiet_step (fail))
          refine wpQuiet_nil ?_
          clear Crb
          refine wpS_all [9] rfl (by kernel_rfl) (by simp only [pickL, nthL, List.cons_append, List.nil_append]; rfl) ?_
          repeat (go_big_quiet_step (fail))
          refine wpQuiet_nil ?_
          refine wpS_does1 (i := 4) (d := some 93) (rem := [_, _, _, _]) (out := [_, _, _, _, _]) rfl (by rfl) rfl Try.call22 (llen_d d S2 hS2.out) rfl HM181.out [3] rfl (covS_box 0 rfl covS_nil) rfl rfl ?_
          rintro W183 hm182 hg184
          rw [hln.out]
          have HM185 := Lib.hid hm182
          clear hm182
          simp only [Act.put, List.setIfInBounds_toArray, List.set_cons_succ, List.set_cons_zero]
          refine wpS_this [10, 11, 12, 13] rfl (by kernel_rfl) (by simp only [pickL, nthL, List.cons_append, List.nil_append]; rfl) ?_
          repeat (go_big_quiet_step (fail))
          refine wpQuiet_nil ?_
          refine wpS_all [15, 16, 17] rfl (by kernel_rfl) (by simp only [pickL, nthL, List.cons_append, List.nil_append]; rfl) ?_
          repeat (go_big_quiet_step (fail))
          refine wpQuiet_nil ?_
          have Crb := Mem.cell HM185.out 1 rfl
          refine wpS_stay [18] rfl (by kernel_rfl) (by simp only [pickL, nthL, List.cons_append, List.nil_append]; rfl) ?_
          repeat (go_big_quiet_step (fail))
          refine wpQuiet_nil ?_
          clear Crb
          refine wpS_does1 (i := 14) (d := some 103) (rem := [_, _, _, _]) (out := [_, _, _, _, _]) rfl (by rfl) rfl Try.call23 (lsure_d d S2 hS2.out) rfl HM185.out [0] rfl (covS_box 0 rfl covS_nil) rfl rfl ?_
          rintro W187 hm186 hg188
          have HM189 := Lib.hid hm186
          clear hm186
          simp only [Act.put, List.setIfInBounds_toArray, List.set_cons_succ, List.set_cons_zero]
          refine wpS_this [19, 20, 21, 22] rfl (by kernel_rfl) (by simp only [pickL, nthL, List.cons_append, List.nil_append]; rfl) ?_
          repeat (go_big_quiet_step (fail))
          refine wpQuiet_nil ?_
          refine wpS_all [24, 25, 26] rfl (by kernel_rfl) (by simp only [pickL, nthL, List.cons_append, List.nil_append]; rfl) ?_
          repeat (go_big_quiet_step (fail))
          refine wpQuiet_nil ?_
          have Crb := Mem.cell HM189.out 1 rfl
          refine wpS_stay [27] rfl (by kernel_rfl) (by simp only [pickL, nthL, List.cons_append, List.nil_append]; rfl) ?_
          repeat (go_big_quiet_step (fail))
          refine wpQuiet_nil ?_
          clear Crb
          refine wpS_all [28, 29, 30] rfl (by kernel_rfl) (by simp only [pickL, nthL, List.cons_append, List.nil_append]; rfl) ?_
          repeat (go_big_quiet_step (fail))
          refine wpQuiet_nil ?_
          have Crb := Mem.cell HM189.out 1 rfl
          refine wpS_stay [31] rfl (by kernel_rfl) (by simp only [pickL, nthL, List.cons_append, List.nil_append]; rfl) ?_
          repeat (go_big_quiet_step (fail))
          refine wpQuiet_nil ?_
          clear Crb
          refine wpS_all [32, 33] rfl (by kernel_rfl) (by simp only [pickL, nthL, List.cons_append, List.nil_append]; rfl) ?_
          repeat (go_big_quiet_step (fail))
          refine wpQuiet_nil ?_
          refine wpS_does1 (i := 23) (d := some 112) (rem := [_, _, _, _]) (out := [_, _, _, _, _]) rfl (by rfl) rfl Try.call24 (lroom_d d S2 hS2.out) rfl HM189.out [0] rfl (covS_box 0 rfl covS_nil) rfl rfl ?_
          rintro W191 hm190 hg192
          rw [hln.out]
          have HM193 := Lib.hid hm190
          clear hm190
          simp only [Act.put, List.setIfInBounds_toArray, List.set_cons_succ, List.set_cons_zero]
          refine wpS_this [34, 35, 36, 37] rfl (by kernel_rfl) (by simp only [pickL, nthL, List.cons_append, List.nil_append]; rfl) ?_
          repeat (go_big_quiet_step (fail))
          refine wpQuiet_nil ?_
          refine wpS_this [38] rfl (by kernel_rfl) (by simp only [pickL, nthL, List.cons_append, List.nil_append]; rfl) ?_
          repeat (go_big_quiet_step (fail))
          refine wpQuiet_nil ?_
          rw [hqi.out]
          refine wpS_this [39, 40, 41] rfl (by kernel_rfl) (by simp only [pickL, nthL, List.cons_append, List.nil_append]; rfl) ?_
          repeat (go_big_quiet_step (fail))
          refine wpQuiet_nil ?_
          refine wpS_all [43, 44, 45] rfl (by kernel_rfl) (by simp only [pickL, nthL, List.cons_append, List.nil_append]; rfl) ?_
          repeat (go_big_quiet_step (fail))
          refine wpQuiet_nil ?_
          have Crb := Mem.cell HM193.out 1 rfl
          refine wpS_stay [46] rfl (by kernel_rfl) (by simp only [pickL, nthL, List.cons_append, List.nil_append]; rfl) ?_
          repeat (go_big_quiet_step (fail))
          refine wpQuiet_nil ?_
          clear Crb
          refine wpS_skip (i := 42) (d := some 131) rfl (by rfl) rfl ?_
          simp only [Act.put, List.setIfInBounds_toArray, List.set_cons_succ, List.set_cons_zero]
          refine wpS_skip (i := 47) (d := some 136) rfl (by rfl) rfl ?_
          simp only [Act.put, List.setIfInBounds_toArray, List.set_cons_succ, List.set_cons_zero]
          refine wpS_this [48, 49, 50] rfl (by kernel_rfl) (by simp only [pickL, nthL, List.cons_append, List.nil_append]; rfl) ?_
          repeat (go_big_quiet_step (fail))
          refine wpQuiet_nil ?_
          refine wpS_nil ?_
          refine then_normal ?_
          refine wp_cond_false rfl ?_
          refine wp_skip ?_
          refine block_normal ?_
          refine then_normal ?_
          refine wp_region_N [(0, 1), (1, 1)] (by kernel_rfl) ?_
          refine wpS_this [0, 1] rfl (by kernel_rfl) (by simp only [pickL, nthL, List.cons_append, List.nil_append]; rfl) ?_
          repeat (go_big_quiet_step (fail))
          refine wpQuiet_nil ?_
          refine wpS_nil ?_
          refine then_normal ?_
          refine ⟨by kernel_rfl, ?_⟩
          exact ⟨l.length - (k + 1), by omega, k + 1, S2, ys2, rfl, rfl, hk1, hS2.out, hy2.out, Mem.only (M := [_, _, _]) (Mem.toRf hye.out rfl rfl rfl (Mem.only (M := [_, _, _, _]) HM193.out [1, 1, 0, 0] rfl)) [1, 0, 0] rfl⟩
    · have hge : Hid (l.length ≤ k) := Lib.hid (by have : ¬ (k : Int) < ((l.length : Nat) : Int) := (by simpa using h19); omega)
      clear h19
      refine wp_exit ?_
      refine then_exit (then_exit (block_exit ?_))
      refine then_normal ?_
      refine wp_seq ?_
      obtain ⟨S2, hS2e⟩ : ∃ x, S = x := ⟨_, rfl⟩
      obtain ⟨ys2, hyse⟩ : ∃ x, ys = x := ⟨_, rfl⟩
      rw [hS2e, hyse] at HM18
      have hS2 : Hid (LgOk S2) := Lib.hid (hS2e ▸ hS.out)
      have hy2 : Hid (∀ y ∈ ys2, DxR (oldT W0) y) := Lib.hid (hyse ▸ hys.out)
      clear hS2e hyse
      obtain ⟨pR, cR, hye', HG'⟩ := Mem.rf (Mem.only (M := [_, _, _]) HM18.out [1, 0, 0] rfl)
      have HG := Lib.hid HG'
      clear HG'
      have hye := Lib.hid hye'
      clear hye'
      have hyl : Hid (ys2.length = S2.l.length) := Lib.hid (by rw [← hye.out, List.length_map])
      have hb2 : ys2.length ≤ S2.room := by rw [hyl.out]; exact hS2.out.len
      have hb3 : S2.room ≤ 3000 := hS2.out.room
      have hln : Hid ((S2.l.length : Int) = (ys2.length : Int)) := Lib.hid (by rw [hyl.out])
      have hsm : Hid (sameL S2.l (ys2.map fun x => x.d) = true) := Lib.hid (same_eq hye.out.symm)
      refine wp_region_M (fun k => k ∈ ([dF] : List Nat)) [(0, 1), (2, 0), (3, 0), (4, 0), (5, 2), (1, 3), (6, 3), (7, 1), (8, 3), (9, 1), (10, 1)] (by kernel_rfl) (by kernel_rfl) HG.out ?_
      intro W194 hm195
      have HM196 := Lib.hid hm195
      clear hm195
      refine wpS_this [0] rfl (by kernel_rfl) (by simp only [pickL, nthL, List.cons_append, List.nil_append]; rfl) ?_
      repeat (go_big_quiet_step (fail))
      refine wpQuiet_nil ?_
      refine wpS_all [2, 3, 4] rfl (by kernel_rfl) (by simp only [pickL, nthL, List.cons_append, List.nil_append]; rfl) ?_
      repeat (go_big_quiet_step (fail))
      refine wpQuiet_nil ?_
      have Crb := Mem.cell HM196.out 0 rfl
      refine wpS_stay [5] rfl (by kernel_rfl) (by simp only [pickL, nthL, List.cons_append, List.nil_append]; rfl) ?_
      repeat (go_big_quiet_step (fail))
      refine wpQuiet_nil ?_
      clear Crb
      refine wpS_doesU1 (i := 1) (d := some 142) (rem := [_, _, _]) rfl (by rfl) rfl Try.call26 (lall_d d S2 hS2.out) rfl HM196.out [2] rfl (covS_box 0 rfl covS_nil) (fun _ => rfl) rfl ?_
      rintro u200 W198 hm197 hg199
      obtain ⟨zs, pa, ca, has', rfl, hm197q⟩ := Mem.alR hm197
      clear hm197
      have has := Lib.hid has'
      clear has'
      have HM201 := Lib.hid hm197q
      clear hm197q
      simp only [Act.put, List.setIfInBounds_toArray, List.set_cons_succ, List.set_cons_zero]
      refine wpS_does2 (i := 6) (d := some 147) (rem := [_, _]) (out := [_, _, _, _, _, _]) rfl (by rfl) rfl Try.call25 (Does.ofList (sameL_d (listT [_, _, _, _]) _ _ zs ys2 (vRowE 0 rfl rowT_reads) (vRowE 2 rfl rowT_reads) (all_reads 1 rfl (lg_reads hS2.out (lg_all has.out))) (all_reads 3 rfl hy2.out) (by have := lg_len has.out; have := hS2.out.len; have := hS2.out.room; omega))) rfl rfl HM201.out [0, 0, 2, 2] rfl (covS_box 1 rfl covS_nil) rfl rfl ?_
      rintro W203 hm202 hg204
      rw [has.out, hsm.out]
      have HM205 := Lib.hid hm202
      clear hm202
      simp only [Act.put, List.setIfInBounds_toArray, List.set_cons_succ, List.set_cons_zero]
      refine wpS_this [7] rfl (by kernel_rfl) (by simp only [pickL, nthL, List.cons_append, List.nil_append]; rfl) ?_
      repeat (go_big_quiet_step (fail))
      refine wpQuiet_nil ?_
      refine wpS_does0 (i := 8) (d := some 149) (rem := [_, _, _, _, _, _]) (out := [_, _, _, _, _, _]) rfl (by rfl) rfl Try.call9 (awake_d)  HM205.out [] rfl (covS_box 5 rfl covS_nil) rfl rfl ?_
      rintro W207 hm206 hg208
      have HM209 := Lib.hid hm206
      clear hm206
      simp only [Act.put, List.setIfInBounds_toArray, List.set_cons_succ, List.set_cons_zero]
      refine wpS_this [9, 10] rfl (by kernel_rfl) (by simp only [pickL, nthL, List.cons_append, List.nil_append]; rfl) ?_
      repeat (go_big_quiet_step (fail))
      refine wpQuiet_nil ?_
      refine wpS_nil ?_
      refine then_normal ?_
      refine wp_ret ?_
      refine bodyPost_ret (results_tmp rfl _ _ _) rfl ?_
      exact does_ret (Mem.only (M := [_]) HM209.out [3] rfl) rfl rfl

end Go.Proofs.Ytnahhbpaijfpbaa
