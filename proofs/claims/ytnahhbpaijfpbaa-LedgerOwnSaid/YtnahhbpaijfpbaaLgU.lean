/- Ledgers: LedgerSure. -/
import Derived.Test.YtnahhbpaijfpbaaLgY
import Derived.Test.YtnahhbpaijfpbaaSxIns
namespace Go.Proofs.Ytnahhbpaijfpbaa
open Go Go.RowKit Go.BigFrame

theorem Mem.noneT {L : List At} {H0 : Nat → Prop} {w W : World} (h : Mem L H0 w W) : Mem (ownX [] :: L) H0 w W := SEnd.mono h fun H h => ⟨fun _ => False, H, fun _ h => h, h, fun _ h => h.elim, fun _ => ⟨.inr, fun h => h.elim (fun h => h.elim) id⟩⟩
theorem new_100 : newL 100 = ⟨100, 0, []⟩ := rfl
/-- A row's first elements, read of what reads the row. -/
theorem head_row {α : Type} {E : Elem Try.prog α} {A : At} {p : Option Addr} {n c k : Nat} {xs : List α} (hr : Reads E A (.slice p n c) xs) (hk : k ≤ xs.length) : ∀ W H, A.p W H → RowAt E W (.slice p k c) (xs.take k) := fun W H h => rowAt_src (SrcE.take (hr W H h) hk)
theorem head_rowL {α : Type} {E : Elem Try.prog α} {l : List At} {A : At} {p : Option Addr} {n c k : Nat} {xs : List α} (i : Nat) (hi : l[i]? = some A) (hr : Reads E A (.slice p n c) xs) (hk : k ≤ xs.length) : ∀ W H, (listT l).p W H → RowAt E W (.slice p k c) (xs.take k) := head_row (vL i hi hr) hk
theorem take_reads {l : List At} {A : At} {xs : List Dx} {k : Nat} (i : Nat) (hi : l[i]? = some A) (h : ∀ x ∈ xs, DxR A x) : ∀ x ∈ xs.take k, DxR (listT l) x := fun x hx => (h x (List.mem_of_mem_take hx)).list i hi
theorem all_reads {l : List At} {A : At} {xs : List Dx} (i : Nat) (hi : l[i]? = some A) (h : ∀ x ∈ xs, DxR A x) : ∀ x ∈ xs, DxR (listT l) x := fun x hx => (h x hx).list i hi
theorem lg_reads {S : Lg} {xs : List Dx} (hS : LgOk S) {m : Nat} (h : xs.map (fun x => x.d) = S.l.take m) : ∀ x ∈ xs, DxR (ownX xs) x := ownX_reads fun d hd => by
  rw [h] at hd
  exact hS.may d (List.mem_of_mem_take hd)
theorem lg_all {S : Lg} {xs : List Dx} (h : xs.map (fun x => x.d) = S.l) : xs.map (fun x => x.d) = S.l.take S.l.length := by rw [h, List.take_length]
theorem lg_len {S : Lg} {xs : List Dx} (h : xs.map (fun x => x.d) = S.l) : xs.length = S.l.length := by rw [← h, List.length_map]
theorem same_eq {a b : List Dd} (h : a = b) : sameL a b = true := by rw [h]; exact sameL_refl b
theorem rn_len {w : World} {x : Dx} (h : DdQ w x) : x.d.r.p.2.2.length = x.rn := by
  obtain ⟨_, _, p, c, e, _⟩ := h
  exact (Value.slice.inj e).2.1.symm
set_option maxHeartbeats 4000000 in
set_option maxRecDepth 100000 in
theorem sure_d (W0 : World) (v : Value) (l : List CallL) (hR' : ∀ W H, (oldT W0).p W H → RowAt elemL W v l) (hQ' : ∀ y ∈ l, DdQ W0 y.x ∧ y.x.d.b.v.length ≤ 4398046510976) : Does Try.prog 5 #[v] [oldT W0] (.bool true) [oldT W0] := by
  intro w H hp
  have HM0 := Lib.hid (mem_refl hp)
  clear hp
  obtain ⟨p, cap, rfl, -⟩ := (HM0.out.row 0 rfl hR').form
  have hlx : Hid (∀ y ∈ l, DxL (oldT W0) y.x) := Lib.hid (fun y hy => ⟨vOld (hQ' y hy).1.1, (hQ' y hy).2, srcOld (hQ' y hy).1.2⟩)
  have hR := Lib.hid hR'
  clear hR'
  have hQ := Lib.hid hQ'
  clear hQ'
  go_enter Try.func5, Try.ntmps5
  refine wp_seq ?_
  refine wp_region_N [(0, 1)] (by kernel_rfl) ?_
  refine wpS_this [0] rfl (by kernel_rfl) (by simp only [pickL, nthL, List.cons_append, List.nil_append]; rfl) ?_
  repeat (go_big_quiet_step (fail))
  refine wpQuiet_nil ?_
  refine wpS_nil ?_
  refine then_normal ?_
  refine wp_seq ?_
  refine wp_seq ?_
  cases hl' : litL l
  · have hl := Lib.hid hl'
    clear hl'
    refine wp_region_N [(0, 1), (1, 3), (2, 1)] (by kernel_rfl) ?_
    refine wpS_this [0] rfl (by kernel_rfl) (by simp only [pickL, nthL, List.cons_append, List.nil_append]; rfl) ?_
    repeat (go_big_quiet_step (fail))
    refine wpQuiet_nil ?_
    refine wpS_does1 (i := 1) (d := some 13) (rem := []) (out := [_]) rfl (by rfl) rfl Try.call8 (light_d (oldT W0) _ l hR.out hlx.out) rfl HM0.out [0] rfl covS_nil rfl rfl ?_
    rintro W2 hm1 -
    rw [hl.out]
    have HM3 := Lib.hid hm1
    clear hm1
    simp only [Act.put, List.setIfInBounds_toArray, List.set_cons_succ, List.set_cons_zero]
    refine wpS_this [2] rfl (by kernel_rfl) (by simp only [pickL, nthL, List.cons_append, List.nil_append]; rfl) ?_
    repeat (go_big_quiet_step (fail))
    refine wpQuiet_nil ?_
    refine wpS_nil ?_
    refine then_normal ?_
    refine wp_cond_true rfl ?_
    refine wp_seq ?_
    refine wp_region_N [(0, 3), (1, 1)] (by kernel_rfl) ?_
    refine wpS_does0 (i := 0) (d := some 15) (rem := [_]) (out := [_]) rfl (by rfl) rfl Try.call9 (awake_d)  HM3.out [] rfl covS_nil rfl rfl ?_
    rintro W5 hm4 -
    have HM6 := Lib.hid hm4
    clear hm4
    simp only [Act.put, List.setIfInBounds_toArray, List.set_cons_succ, List.set_cons_zero]
    refine wpS_this [1] rfl (by kernel_rfl) (by simp only [pickL, nthL, List.cons_append, List.nil_append]; rfl) ?_
    repeat (go_big_quiet_step (fail))
    refine wpQuiet_nil ?_
    refine wpS_nil ?_
    refine then_normal ?_
    refine wp_ret ?_
    refine then_ret ?_
    refine bodyPost_ret (results_tmp rfl _ _ _) rfl ?_
    exact does_ret (Mem.only (M := [_]) HM6.out [0] rfl) rfl rfl
  · have hlit := Lib.hid (lit_of hl')
    have hl := Lib.hid hl'
    clear hl'
    have hl80 : l.length ≤ 80 := hlit.out.1
    refine wp_region_N [(0, 1), (1, 3), (2, 1)] (by kernel_rfl) ?_
    refine wpS_this [0] rfl (by kernel_rfl) (by simp only [pickL, nthL, List.cons_append, List.nil_append]; rfl) ?_
    repeat (go_big_quiet_step (fail))
    refine wpQuiet_nil ?_
    refine wpS_does1 (i := 1) (d := some 13) (rem := []) (out := [_]) rfl (by rfl) rfl Try.call8 (light_d (oldT W0) _ l hR.out hlx.out) rfl HM0.out [0] rfl covS_nil rfl rfl ?_
    rintro W8 hm7 -
    rw [hl.out]
    have HM9 := Lib.hid hm7
    clear hm7
    simp only [Act.put, List.setIfInBounds_toArray, List.set_cons_succ, List.set_cons_zero]
    refine wpS_this [2] rfl (by kernel_rfl) (by simp only [pickL, nthL, List.cons_append, List.nil_append]; rfl) ?_
    repeat (go_big_quiet_step (fail))
    refine wpQuiet_nil ?_
    refine wpS_nil ?_
    refine then_normal ?_
    refine wp_cond_false rfl ?_
    refine wp_skip ?_
    refine then_normal ?_
    refine wp_seq ?_
    refine wp_region_N [(0, 3), (1, 1)] (by kernel_rfl) ?_
    refine wpS_doesU1 (i := 0) (d := some 16) (rem := [_]) rfl (by rfl) rfl Try.call10 (lnew_d 100) rfl HM9.out [] rfl covS_nil (fun _ => rfl) rfl ?_
    rintro u12 W11 hm10 -
    obtain ⟨d, rfl, hm10q⟩ := Mem.lgN hm10
    clear hm10
    rw [new_100] at hm10q
    have HM13 := Lib.hid hm10q
    clear hm10q
    simp only [Act.put, List.setIfInBounds_toArray, List.set_cons_succ, List.set_cons_zero]
    refine wpS_this [1] rfl (by kernel_rfl) (by simp only [pickL, nthL, List.cons_append, List.nil_append]; rfl) ?_
    repeat (go_big_quiet_step (fail))
    refine wpQuiet_nil ?_
    refine wpS_nil ?_
    refine then_normal ?_
    refine wp_seq ?_
    refine wp_region_N [(0, 1)] (by kernel_rfl) ?_
    refine wpS_this [0] rfl (by kernel_rfl) (by simp only [pickL, nthL, List.cons_append, List.nil_append]; rfl) ?_
    repeat (go_big_quiet_step (fail))
    refine wpQuiet_nil ?_
    refine wpS_nil ?_
    refine then_normal ?_
    refine wp_seq ?_
    refine wp_seq ?_
    have HR := Lib.hid (Mem.noneT (Mem.nilRow elemDx HM13.out))
    refine wp_region_N [(0, 1), (1, 1), (2, 1)] (by kernel_rfl) ?_
    refine wpS_this [0, 1, 2] rfl (by kernel_rfl) (by simp only [pickL, nthL, List.cons_append, List.nil_append]; rfl) ?_
    repeat (go_big_quiet_step (fail))
    refine wpQuiet_nil ?_
    refine wpS_nil ?_
    refine then_normal ?_
    refine wp_block ?_
    refine wp_loop_F [2, 4, 6, 7, 8, 9, 10, 11, 19, 20, 21, 22, 23, 24, 25, 26, 27, 28, 29, 30, 31, 32, 33, 34, 35, 36, 37, 38, 39, 40, 41, 42, 43, 44, 45, 46, 47, 48, 49, 50, 51, 52, 53, 54, 55, 56, 57, 58, 59, 60, 61, 62, 63, 64, 65, 66, 67, 68, 69, 70, 71, 72, 73, 74, 75, 76, 77, 78, 79, 80, 81, 82, 83, 84, 85, 86, 87, 88, 89, 90, 91, 92, 93, 94, 95, 96, 97, 98, 99, 100, 101, 102, 103, 104, 105, 106, 107, 108, 109, 110, 111, 112, 113, 114, 115, 116] (fun n vs W' => ∃ (k : Nat) (S : Lg) (xs : List Dx) (p : Option Addr) (c : Nat), n = l.length - k ∧ vs 19 = .int .i64 (k : Int) ∧ vs 4 = .slice p xs.length c ∧ k ≤ l.length ∧ LgOk S ∧ S.room = 100 ∧ xs.map (fun x => x.d) = S.l.take S.sure ∧ Mem [lgT d S, rowT elemDx (.slice p xs.length c) xs, ownX xs, oldT W0] H w W') (n0 := l.length) ?_ ?_
    · exact ⟨0, ⟨100, 0, []⟩, [], none, 0, rfl, rfl, rfl, Nat.zero_le _, new_100 ▸ LgOk.new 100, rfl, rfl, (Mem.only (M := [_, _, _, _]) HR.out [2, 1, 0, 0] rfl)⟩
    rintro n vs W' ⟨k, S, xs, p, c, rfl, e19, e4, hk, hS', hr', hxs', hm⟩
    simp only [putAll, List.map_cons, List.map_nil, Act.put, List.setIfInBounds_toArray, List.set_cons_succ, List.set_cons_zero]
    rw [e19, e4]
    clear e19 e4
    have hxl' : xs.length = S.sure := by rw [← List.length_map (f := fun x : Dx => x.d), hxs', List.length_take]; have := hS'.sure; omega
    have hb1 : xs.length ≤ 3000 := by rw [hxl']; have := hS'.sure; have := hS'.len; have := hS'.room; omega
    have hS := Lib.hid hS'
    clear hS'
    have hr := Lib.hid hr'
    clear hr'
    have hxs := Lib.hid hxs'
    clear hxs'
    have hxl := Lib.hid hxl'
    clear hxl'
    have HM14 := Lib.hid hm
    clear hm
    refine wp_seq ?_
    refine wp_region_N [(0, 1)] (by kernel_rfl) ?_
    refine wpS_this [0] rfl (by kernel_rfl) (by simp only [pickL, nthL, List.cons_append, List.nil_append]; rfl) ?_
    repeat (go_big_quiet_step (fail))
    refine wpQuiet_nil ?_
    refine wpS_nil ?_
    refine then_normal ?_
    refine wp_seq ?_
    refine wp_cond_split rfl (fun h15 => ?_) (fun h15 => ?_)
    · have hk1 : k + 1 ≤ l.length := by have : (k : Int) < ((l.length : Nat) : Int) := (by simpa using h15); omega
      clear h15
      obtain ⟨y, hy'⟩ : ∃ y, l[k]? = some y := ⟨_, List.getElem?_eq_getElem (hk1)⟩
      have hy := Lib.hid hy'
      clear hy'
      have hyq := Lib.hid (hQ.out y (List.mem_of_getElem? hy.out)).1
      have hyv := Lib.hid (hQ.out y (List.mem_of_getElem? hy.out)).2
      have hyr : Hid (y.x.d.r.p.2.2.length ≤ 1000) := Lib.hid (by have q := (good_rn (hlit.out.2 y (List.mem_of_getElem? hy.out))).1; have e := rn_len hyq.out; omega)
      refine wp_skip ?_
      refine then_normal ?_
      refine wp_seq ?_
      refine wp_block ?_
      refine wp_seq ?_
      refine wp_region_N [(0, 1), (1, 1), (2, 3), (3, 3)] (by kernel_rfl) ?_
      refine wpS_index (E := elemL) (i := 0) (d := some 21) rfl (by rfl) rfl rfl rfl (HM14.out.row 3 rfl hR.out) (hy.out) rfl ?_
      intro eb16 eo17 hc18
      simp only [Act.put, List.setIfInBounds_toArray, List.set_cons_succ, List.set_cons_zero]
      refine wpS_loadA (i := 1) (d := some 22) (cells := CallL.enc y) rfl (by rfl) rfl rfl hc18 Try.underlying45 rfl (by kernel_rfl) rfl ?_
      simp only [Act.put, List.setIfInBounds_toArray, List.set_cons_succ, List.set_cons_zero]
      refine wpS_alloc (i := 2) (dd := 6) (z := .agg (default : CallL).enc.toArray) (cs := (default : CallL).enc.toArray) rfl (by rfl) rfl (by kernel_rfl) rfl HM14.out covS_nil rfl ?_
      rintro b21 W20 hm19 -
      have HM22 := Lib.hid hm19
      clear hm19
      simp only [Act.put, List.setIfInBounds_toArray, List.set_cons_succ, List.set_cons_zero]
      refine wpS_storeA (i := 3) (L2 := [_, _, _, _]) (cs' := CallL.enc y) rfl (by rfl) rfl rfl rfl (by kernel_rfl) (show (CallL.enc y).all Value.oneCell' = true by kernel_rfl) HM22.out 0 rfl rfl (by kernel_rfl) (by kernel_rfl) covS_nil rfl ?_
      rintro W24 hm23 -
      have HM25 := Lib.hid hm23
      clear hm23
      refine wpS_nil ?_
      refine then_normal ?_
      refine wp_seq ?_
      refine wp_region_N [(0, 1), (1, 3), (2, 1)] (by kernel_rfl) ?_
      refine wpS_this [0] rfl (by kernel_rfl) (by simp only [pickL, nthL, List.cons_append, List.nil_append]; rfl) ?_
      repeat (go_big_quiet_step (fail))
      refine wpQuiet_nil ?_
      refine wpS_doesU1 (i := 1) (d := some 24) (rem := [_, _, _, _]) rfl (by rfl) rfl Try.call26 (lall_d d S hS.out) rfl HM25.out [1] rfl covS_nil (fun _ => rfl) rfl ?_
      rintro u28 W27 hm26 -
      obtain ⟨ws, pw, cw, hws', rfl, hm26q⟩ := Mem.alR hm26
      clear hm26
      have hws := Lib.hid hws'
      clear hws'
      have HM29 := Lib.hid hm26q
      clear hm26q
      simp only [Act.put, List.setIfInBounds_toArray, List.set_cons_succ, List.set_cons_zero]
      refine wpS_this [2] rfl (by kernel_rfl) (by simp only [pickL, nthL, List.cons_append, List.nil_append]; rfl) ?_
      repeat (go_big_quiet_step (fail))
      refine wpQuiet_nil ?_
      refine wpS_nil ?_
      refine then_normal ?_
      refine wp_seq ?_
      refine wp_seq ?_
      refine wp_region_N [(0, 1), (1, 1)] (by kernel_rfl) ?_
      refine wpS_this [0] rfl (by kernel_rfl) (by simp only [pickL, nthL, List.cons_append, List.nil_append]; rfl) ?_
      repeat (go_big_quiet_step (fail))
      refine wpQuiet_nil ?_
      refine wpS_load1 (i := 1) (d := some 26) (u := .int .i64 y.op) rfl (by rfl) rfl rfl (HM29.out.part1 3 rfl rfl) Try.underlying3 rfl rfl ?_
      simp only [Act.put, List.setIfInBounds_toArray, List.set_cons_succ, List.set_cons_zero]
      refine wpS_nil ?_
      refine then_normal ?_
      refine wp_block ?_
      refine wp_seq ?_
      rcases (show y.op = 0 ∨ y.op = 1 ∨ (y.op ≠ 0 ∧ y.op ≠ 1) from by omega) with ho | ho | ⟨ho, ho2⟩
      · have ge : (y.op == 0) = true := beq_iff_eq.2 ho
        clear ho
        refine wp_region_N [(0, 1), (1, 1)] (by kernel_rfl) ?_
        refine wpS_this [0, 1] rfl (by kernel_rfl) (by simp only [pickL, nthL, List.cons_append, List.nil_append]; rfl) ?_
        repeat (go_big_quiet_step (fail))
        refine wpQuiet_nil ?_
        refine wpS_nil ?_
        refine then_normal ?_
        refine wp_cond_true rfl ?_
        refine wp_seq ?_
        refine wp_seq ?_
        skip
        · have hb2 : ws.length ≤ 3000 := by rw [lg_len hws.out]; have := hS.out.len; have := hS.out.room; omega
          have hwl : Hid (ws.length = S.l.length) := Lib.hid (lg_len hws.out)
          obtain ⟨S2, hS2e⟩ : ∃ x, (syncL S).1 = x := ⟨_, rfl⟩
          have hsy : Hid (syncL S = (S2, (ws.length : Int) - (xs.length : Int))) := Lib.hid (Prod.ext hS2e (by show (S.l.length : Int) - (S.sure : Int) = _; rw [hwl.out, hxl.out]))
          have hS2 : Hid (LgOk S2) := Lib.hid (hS2e ▸ hS.out.sync)
          have hr2 : Hid (S2.room = 100) := Lib.hid (by rw [← hS2e]; exact hr.out)
          have hsl : Hid (S2.sure = S2.l.length) := Lib.hid (by rw [← hS2e]; rfl)
          clear hS2e
          have g14 : (((ws.length : Int) - (xs.length : Int)) != ((ws.length : Int) - (xs.length : Int))) = false := bne_self_eq_false _
          refine wp_region_N [(0, 1), (1, 3), (2, 1), (3, 1), (4, 1), (5, 1), (6, 1), (7, 1)] (by kernel_rfl) ?_
          refine wpS_this [0] rfl (by kernel_rfl) (by simp only [pickL, nthL, List.cons_append, List.nil_append]; rfl) ?_
          repeat (go_big_quiet_step (fail))
          refine wpQuiet_nil ?_
          refine wpS_does1 (i := 1) (d := some 45) (rem := [_, _, _, _, _, _]) (out := [_, _, _, _, _, _, _]) rfl (by rfl) rfl Try.call16 (lsync_d d S hS.out) rfl HM29.out [2] rfl covS_nil rfl rfl ?_
          rintro W31 hm30 -
          rw [hsy.out] at hm30 ⊢
          have HM32 := Lib.hid hm30
          clear hm30
          simp only [Act.put, List.setIfInBounds_toArray, List.set_cons_succ, List.set_cons_zero]
          refine wpS_this [2, 3, 4, 5, 6, 7] rfl (by kernel_rfl) (by simp only [pickL, nthL, List.cons_append, List.nil_append]; rfl) ?_
          repeat (go_big_quiet_step (fail))
          refine wpQuiet_nil ?_
          refine wpS_nil ?_
          refine then_normal ?_
          refine wp_cond_false rfl ?_
          refine wp_skip ?_
          refine then_normal ?_
          refine wp_region_N [(0, 1), (1, 3), (2, 1)] (by kernel_rfl) ?_
          refine wpS_this [0] rfl (by kernel_rfl) (by simp only [pickL, nthL, List.cons_append, List.nil_append]; rfl) ?_
          repeat (go_big_quiet_step (fail))
          refine wpQuiet_nil ?_
          refine wpS_doesU1 (i := 1) (d := some 53) (rem := [_, _, _, _, _, _]) rfl (by rfl) rfl Try.call26 (lall_d d S2 hS2.out) rfl HM32.out [0] rfl covS_nil (fun _ => rfl) rfl ?_
          rintro u35 W34 hm33 -
          obtain ⟨ss, ps, cs, hss', rfl, hm33q⟩ := Mem.alR hm33
          clear hm33
          have hss := Lib.hid hss'
          clear hss'
          have hx2 : Hid (ss.map (fun x => x.d) = S2.l.take S2.sure) := Lib.hid (by rw [hsl.out]; exact lg_all hss.out)
          have HM36 := Lib.hid hm33q
          clear hm33q
          simp only [Act.put, List.setIfInBounds_toArray, List.set_cons_succ, List.set_cons_zero]
          refine wpS_this [2] rfl (by kernel_rfl) (by simp only [pickL, nthL, List.cons_append, List.nil_append]; rfl) ?_
          repeat (go_big_quiet_step (fail))
          refine wpQuiet_nil ?_
          refine wpS_nil ?_
          refine block_normal ?_
          refine then_normal ?_
          refine wp_seq ?_
          refine wp_region_N [(0, 1), (1, 3), (2, 1)] (by kernel_rfl) ?_
          refine wpS_this [0] rfl (by kernel_rfl) (by simp only [pickL, nthL, List.cons_append, List.nil_append]; rfl) ?_
          repeat (go_big_quiet_step (fail))
          refine wpQuiet_nil ?_
          refine wpS_doesU1 (i := 1) (d := some 94) (rem := [_, _, _, _, _, _, _, _]) rfl (by rfl) rfl Try.call26 (lall_d d S2 hS2.out) rfl HM36.out [2] rfl covS_nil (fun _ => rfl) rfl ?_
          rintro u39 W38 hm37 -
          obtain ⟨zs, pz, cz, hzs', rfl, hm37q⟩ := Mem.alR hm37
          clear hm37
          have hzs := Lib.hid hzs'
          clear hzs'
          have HM40 := Lib.hid hm37q
          clear hm37q
          simp only [Act.put, List.setIfInBounds_toArray, List.set_cons_succ, List.set_cons_zero]
          refine wpS_this [2] rfl (by kernel_rfl) (by simp only [pickL, nthL, List.cons_append, List.nil_append]; rfl) ?_
          repeat (go_big_quiet_step (fail))
          refine wpQuiet_nil ?_
          refine wpS_nil ?_
          refine then_normal ?_
          refine wp_seq ?_
          have hzl : Hid (zs.length = S2.l.length) := Lib.hid (lg_len hzs.out)
          have hxl2 : Hid (ss.length = S2.sure) := Lib.hid (by rw [← List.length_map (f := fun x : Dx => x.d), hx2.out, List.length_take]; have := hS2.out.sure; omega)
          have hl2 : Hid (ss.length ≤ 3000) := Lib.hid (by rw [hxl2.out]; have := hS2.out.sure; have := hS2.out.len; have := hS2.out.room; omega)
          have hle : Hid (ss.length ≤ zs.length) := Lib.hid (by rw [hxl2.out, hzl.out]; exact hS2.out.sure)
          have hsm2 : Hid (sameL ((zs.take ss.length).map fun x => x.d) (ss.map fun x => x.d) = true) := Lib.hid (same_eq (by rw [List.map_take, hzs.out, hx2.out, hxl2.out]))
          have hsu2 : Hid ((S2.sure : Int) = (ss.length : Int)) := Lib.hid (by rw [hxl2.out])
          have g24 : decide ((zs.length : Int) < (ss.length : Int)) = false := decide_eq_false (by have := hle.out; omega)
          have g24' : decide (zs.length < ss.length) = false := decide_eq_false (by have := hle.out; omega)
          have g24b : ((ss.length : Int) != (ss.length : Int)) = false := bne_self_eq_false _
          have g24c : (ss.length != ss.length) = false := bne_self_eq_false _
          refine wp_region_N [(0, 1), (1, 1), (2, 1), (3, 1), (4, 1), (5, 1), (6, 1), (7, 1), (8, 1), (9, 1), (10, 1), (11, 3), (12, 1), (13, 1), (14, 1), (15, 1), (16, 3), (17, 1), (18, 1), (19, 1), (20, 1)] (by kernel_rfl) ?_
          refine wpS_this [0, 1, 2, 3, 4, 5, 6, 7, 8] rfl (by kernel_rfl) (by simp only [pickL, nthL, List.cons_append, List.nil_append]; rfl) ?_
          repeat (go_big_quiet_step (fail))
          refine wpQuiet_nil ?_
          refine wpS_read (i := 9) (d := some 104) rfl (by rfl) (run_headE (E := elemDx) (k := ss.length) (Nat.le_trans hle.out (row_cap (Mem.src HM40.out 0 rfl rowT_reads))) rfl rfl rfl) rfl ?_
          simp only [Act.put, List.setIfInBounds_toArray, List.set_cons_succ, List.set_cons_zero]
          refine wpS_this [10] rfl (by kernel_rfl) (by simp only [pickL, nthL, List.cons_append, List.nil_append]; rfl) ?_
          repeat (go_big_quiet_step (fail))
          refine wpQuiet_nil ?_
          refine wpS_does2 (i := 11) (d := some 106) (rem := [_, _, _, _, _, _, _]) (out := [_, _, _, _, _, _, _, _, _, _, _]) rfl (by rfl) rfl Try.call25 (Does.ofList (sameL_d (listT [_, _, _, _]) _ _ (zs.take ss.length) ss (head_rowL 0 rfl rowT_reads hle.out) (vRowE 2 rfl rowT_reads) (take_reads 1 rfl (lg_reads hS2.out (lg_all hzs.out))) (all_reads 3 rfl (lg_reads hS2.out hx2.out)) (by rw [List.length_take]; have := hl2.out; omega))) rfl rfl HM40.out [0, 0, 1, 1] rfl covS_nil rfl rfl ?_
          rintro W42 hm41 -
          rw [hsm2.out]
          have HM43 := Lib.hid hm41
          clear hm41
          simp only [Act.put, List.setIfInBounds_toArray, List.set_cons_succ, List.set_cons_zero]
          refine wpS_this [12, 13, 14, 15] rfl (by kernel_rfl) (by simp only [pickL, nthL, List.cons_append, List.nil_append]; rfl) ?_
          repeat (go_big_quiet_step (fail))
          refine wpQuiet_nil ?_
          refine wpS_does1 (i := 16) (d := some 111) (rem := [_, _, _, _, _, _, _, _, _, _]) (out := [_, _, _, _, _, _, _, _, _, _, _]) rfl (by rfl) rfl Try.call23 (lsure_d d S2 hS2.out) rfl HM43.out [4] rfl covS_nil rfl rfl ?_
          rintro W45 hm44 -
          rw [hsu2.out]
          have HM46 := Lib.hid hm44
          clear hm44
          simp only [Act.put, List.setIfInBounds_toArray, List.set_cons_succ, List.set_cons_zero]
          refine wpS_this [17, 18, 19, 20] rfl (by kernel_rfl) (by simp only [pickL, nthL, List.cons_append, List.nil_append]; rfl) ?_
          repeat (go_big_quiet_step (fail))
          refine wpQuiet_nil ?_
          refine wpS_nil ?_
          refine then_normal ?_
          refine wp_cond_false rfl ?_
          refine wp_skip ?_
          refine block_normal ?_
          refine then_normal ?_
          refine wp_region_N [(0, 1), (1, 1)] (by kernel_rfl) ?_
          refine wpS_this [0, 1] rfl (by kernel_rfl) (by simp only [pickL, nthL, List.cons_append, List.nil_append]; rfl) ?_
          repeat (go_big_quiet_step (fail))
          refine wpQuiet_nil ?_
          refine wpS_nil ?_
          refine then_normal ?_
          refine ⟨by kernel_rfl, ?_⟩
          exact ⟨l.length - (k + 1), by omega, k + 1, S2, ss, ps, cs, rfl, rfl, rfl, hk1, hS2.out, hr2.out, hx2.out, (Mem.only (M := [_, _, _, _]) HM46.out [0, 2, 2, 7] rfl)⟩
      · have ge : (y.op == 0) = false := beq_eq_false_iff_ne.2 (by omega)
        have ge1 : (y.op == 1) = true := beq_iff_eq.2 ho
        clear ho
        refine wp_region_N [(0, 1), (1, 1)] (by kernel_rfl) ?_
        refine wpS_this [0, 1] rfl (by kernel_rfl) (by simp only [pickL, nthL, List.cons_append, List.nil_append]; rfl) ?_
        repeat (go_big_quiet_step (fail))
        refine wpQuiet_nil ?_
        refine wpS_nil ?_
        refine then_normal ?_
        refine wp_cond_false rfl ?_
        refine wp_seq ?_
        refine wp_region_N [(0, 1), (1, 1)] (by kernel_rfl) ?_
        refine wpS_this [0, 1] rfl (by kernel_rfl) (by simp only [pickL, nthL, List.cons_append, List.nil_append]; rfl) ?_
        repeat (go_big_quiet_step (fail))
        refine wpQuiet_nil ?_
        refine wpS_nil ?_
        refine then_normal ?_
        refine wp_cond_true rfl ?_
        refine wp_seq ?_
        skip
        · have hb2 : ws.length ≤ 3000 := by rw [lg_len hws.out]; have := hS.out.len; have := hS.out.room; omega
          have hwl : Hid (ws.length = S.l.length) := Lib.hid (lg_len hws.out)
          obtain ⟨S2, hS2e⟩ : ∃ x, (crashL S y.n).1 = x := ⟨_, rfl⟩
          obtain ⟨kp, hkp'⟩ : ∃ x, keepL S y.n = x := ⟨_, rfl⟩
          have hkl := keep_le hS.out y.n
          rw [hkp', ← hwl.out] at hkl
          obtain ⟨hkl1, hkl2⟩ := hkl
          have hcr : Hid (crashL S y.n = (S2, (ws.length : Int) - (kp : Int))) := Lib.hid (Prod.ext hS2e (by show (S.l.length : Int) - (keepL S y.n : Int) = _; rw [hwl.out, hkp']))
          have hS2 : Hid (LgOk S2) := Lib.hid (hS2e ▸ hS.out.crash y.n)
          have hr2 : Hid (S2.room = 100) := Lib.hid (by rw [← hS2e]; exact hr.out)
          have hl2e : Hid (S2.l = S.l.take kp) := Lib.hid (by rw [← hS2e, ← hkp']; rfl)
          have hl2n : Hid (S2.l.length = kp) := Lib.hid (by rw [hl2e.out, List.length_take, ← hwl.out]; omega)
          have hsl : Hid (S2.sure = S2.l.length) := Lib.hid (by rw [hl2n.out, ← hS2e, ← hkp']; rfl)
          clear hS2e hkp'
          refine wp_region_N [(0, 1), (1, 1), (2, 1), (3, 3), (4, 1)] (by kernel_rfl) ?_
          refine wpS_this [0, 1] rfl (by kernel_rfl) (by simp only [pickL, nthL, List.cons_append, List.nil_append]; rfl) ?_
          repeat (go_big_quiet_step (fail))
          refine wpQuiet_nil ?_
          refine wpS_load1 (i := 2) (d := some 58) (u := .int .i64 y.n) rfl (by rfl) rfl rfl (HM29.out.part1 3 rfl rfl) Try.underlying3 rfl rfl ?_
          simp only [Act.put, List.setIfInBounds_toArray, List.set_cons_succ, List.set_cons_zero]
          refine wpS_does2 (i := 3) (d := some 59) (rem := [_, _, _, _, _, _]) (out := [_, _, _, _, _, _, _]) rfl (by rfl) rfl Try.call18 (lcrash_d d S hS.out y.n) rfl rfl HM29.out [2] rfl covS_nil rfl rfl ?_
          rintro W48 hm47 -
          rw [hcr.out] at hm47 ⊢
          have HM49 := Lib.hid hm47
          clear hm47
          simp only [Act.put, List.setIfInBounds_toArray, List.set_cons_succ, List.set_cons_zero]
          refine wpS_this [4] rfl (by kernel_rfl) (by simp only [pickL, nthL, List.cons_append, List.nil_append]; rfl) ?_
          repeat (go_big_quiet_step (fail))
          refine wpQuiet_nil ?_
          refine wpS_nil ?_
          refine then_normal ?_
          refine wp_seq ?_
          refine wp_region_N [(0, 1), (1, 3), (2, 1)] (by kernel_rfl) ?_
          refine wpS_this [0] rfl (by kernel_rfl) (by simp only [pickL, nthL, List.cons_append, List.nil_append]; rfl) ?_
          repeat (go_big_quiet_step (fail))
          refine wpQuiet_nil ?_
          refine wpS_doesU1 (i := 1) (d := some 61) (rem := [_, _, _, _, _, _]) rfl (by rfl) rfl Try.call26 (lall_d d S2 hS2.out) rfl HM49.out [0] rfl covS_nil (fun _ => rfl) rfl ?_
          rintro u52 W51 hm50 -
          obtain ⟨ns, pn, cn, hns', rfl, hm50q⟩ := Mem.alR hm50
          clear hm50
          have hns := Lib.hid hns'
          clear hns'
          have hx2 : Hid (ns.map (fun x => x.d) = S2.l.take S2.sure) := Lib.hid (by rw [hsl.out]; exact lg_all hns.out)
          have HM53 := Lib.hid hm50q
          clear hm50q
          simp only [Act.put, List.setIfInBounds_toArray, List.set_cons_succ, List.set_cons_zero]
          refine wpS_this [2] rfl (by kernel_rfl) (by simp only [pickL, nthL, List.cons_append, List.nil_append]; rfl) ?_
          repeat (go_big_quiet_step (fail))
          refine wpQuiet_nil ?_
          refine wpS_nil ?_
          refine then_normal ?_
          refine wp_seq ?_
          refine wp_seq ?_
          skip
          · have hnl : Hid (ns.length = kp) := Lib.hid ((lg_len hns.out).trans hl2n.out)
            have hnle : Hid (ns.length ≤ ws.length) := Lib.hid (by rw [hnl.out]; exact hkl2)
            have hn3 : Hid (ns.length ≤ 3000) := Lib.hid (by rw [lg_len hns.out]; have := hS2.out.len; have := hS2.out.room; omega)
            have hb3 : ns.length ≤ 3000 := hn3.out
            have hsm : Hid (sameL (ns.map fun x => x.d) ((ws.take ns.length).map fun x => x.d) = true) := Lib.hid (same_eq (by rw [hns.out, hl2e.out, List.map_take, hws.out, hnl.out]))
            have hsun : Hid ((S2.sure : Int) = (ns.length : Int)) := Lib.hid (by rw [hsl.out, ← lg_len hns.out])
            have g20 : (((ns.length : Int) + ((ws.length : Int) - (kp : Int))) != (ws.length : Int)) = false := by rw [hnl.out, show (kp : Int) + ((ws.length : Int) - (kp : Int)) = (ws.length : Int) by omega]; exact bne_self_eq_false _
            have g20b : decide ((ws.length : Int) < (ns.length : Int)) = false := decide_eq_false (by have := hnle.out; omega)
            have g20b' : decide (ws.length < ns.length) = false := decide_eq_false (by have := hnle.out; omega)
            have g20c : ((ns.length : Int) != (ns.length : Int)) = false := bne_self_eq_false _
            have g20d : (ns.length != ns.length) = false := bne_self_eq_false _
            refine wp_region_N [(0, 1), (1, 1), (2, 1), (3, 1), (4, 1), (5, 1), (6, 1), (7, 1), (8, 1), (9, 1), (10, 1), (11, 1), (12, 1), (13, 1), (14, 1), (15, 1), (16, 1), (17, 1), (18, 1), (19, 1), (20, 3), (21, 1), (22, 1), (23, 1), (24, 1), (25, 3), (26, 1), (27, 1), (28, 1), (29, 1)] (by kernel_rfl) ?_
            refine wpS_this [0, 1, 2, 3, 4, 5, 6, 7, 8, 9, 10, 11, 12, 13, 14, 15, 16, 17, 18] rfl (by kernel_rfl) (by simp only [pickL, nthL, List.cons_append, List.nil_append]; rfl) ?_
            repeat (go_big_quiet_step (fail))
            refine wpQuiet_nil ?_
            refine wpS_read (i := 19) (d := some 81) rfl (by rfl) (run_headE (E := elemDx) (k := ns.length) (Nat.le_trans hnle.out (row_cap (Mem.src HM53.out 3 rfl rowT_reads))) rfl rfl rfl) rfl ?_
            simp only [Act.put, List.setIfInBounds_toArray, List.set_cons_succ, List.set_cons_zero]
            refine wpS_does2 (i := 20) (d := some 82) (rem := [_, _, _, _, _]) (out := [_, _, _, _, _, _, _, _, _]) rfl (by rfl) rfl Try.call25 (Does.ofList (sameL_d (listT [_, _, _, _]) _ _ ns (ws.take ns.length) (vRowE 0 rfl rowT_reads) (head_rowL 2 rfl rowT_reads hnle.out) (all_reads 1 rfl (lg_reads hS2.out (lg_all hns.out))) (take_reads 3 rfl (lg_reads hS.out (lg_all hws.out))) (by have := hn3.out; omega))) rfl rfl HM53.out [0, 0, 1, 1] rfl covS_nil rfl rfl ?_
            rintro W55 hm54 -
            rw [hsm.out]
            have HM56 := Lib.hid hm54
            clear hm54
            simp only [Act.put, List.setIfInBounds_toArray, List.set_cons_succ, List.set_cons_zero]
            refine wpS_this [21, 22, 23, 24] rfl (by kernel_rfl) (by simp only [pickL, nthL, List.cons_append, List.nil_append]; rfl) ?_
            repeat (go_big_quiet_step (fail))
            refine wpQuiet_nil ?_
            refine wpS_does1 (i := 25) (d := some 87) (rem := [_, _, _, _, _, _, _, _]) (out := [_, _, _, _, _, _, _, _, _]) rfl (by rfl) rfl Try.call23 (lsure_d d S2 hS2.out) rfl HM56.out [4] rfl covS_nil rfl rfl ?_
            rintro W58 hm57 -
            rw [hsun.out]
            have HM59 := Lib.hid hm57
            clear hm57
            simp only [Act.put, List.setIfInBounds_toArray, List.set_cons_succ, List.set_cons_zero]
            refine wpS_this [26, 27, 28, 29] rfl (by kernel_rfl) (by simp only [pickL, nthL, List.cons_append, List.nil_append]; rfl) ?_
            repeat (go_big_quiet_step (fail))
            refine wpQuiet_nil ?_
            refine wpS_nil ?_
            refine then_normal ?_
            refine wp_cond_false rfl ?_
            refine wp_skip ?_
            refine then_normal ?_
            refine wp_region_N [(0, 1), (1, 1)] (by kernel_rfl) ?_
            refine wpS_this [0, 1] rfl (by kernel_rfl) (by simp only [pickL, nthL, List.cons_append, List.nil_append]; rfl) ?_
            repeat (go_big_quiet_step (fail))
            refine wpQuiet_nil ?_
            refine wpS_nil ?_
            refine block_normal ?_
            refine then_normal ?_
            refine wp_seq ?_
            refine wp_region_N [(0, 1), (1, 3), (2, 1)] (by kernel_rfl) ?_
            refine wpS_this [0] rfl (by kernel_rfl) (by simp only [pickL, nthL, List.cons_append, List.nil_append]; rfl) ?_
            repeat (go_big_quiet_step (fail))
            refine wpQuiet_nil ?_
            refine wpS_doesU1 (i := 1) (d := some 94) (rem := [_, _, _, _, _, _, _, _]) rfl (by rfl) rfl Try.call26 (lall_d d S2 hS2.out) rfl HM59.out [0] rfl covS_nil (fun _ => rfl) rfl ?_
            rintro u62 W61 hm60 -
            obtain ⟨zs, pz, cz, hzs', rfl, hm60q⟩ := Mem.alR hm60
            clear hm60
            have hzs := Lib.hid hzs'
            clear hzs'
            have HM63 := Lib.hid hm60q
            clear hm60q
            simp only [Act.put, List.setIfInBounds_toArray, List.set_cons_succ, List.set_cons_zero]
            refine wpS_this [2] rfl (by kernel_rfl) (by simp only [pickL, nthL, List.cons_append, List.nil_append]; rfl) ?_
            repeat (go_big_quiet_step (fail))
            refine wpQuiet_nil ?_
            refine wpS_nil ?_
            refine then_normal ?_
            refine wp_seq ?_
            have hzl : Hid (zs.length = S2.l.length) := Lib.hid (lg_len hzs.out)
            have hxl2 : Hid (ns.length = S2.sure) := Lib.hid (by rw [← List.length_map (f := fun x : Dx => x.d), hx2.out, List.length_take]; have := hS2.out.sure; omega)
            have hl2 : Hid (ns.length ≤ 3000) := Lib.hid (by rw [hxl2.out]; have := hS2.out.sure; have := hS2.out.len; have := hS2.out.room; omega)
            have hle : Hid (ns.length ≤ zs.length) := Lib.hid (by rw [hxl2.out, hzl.out]; exact hS2.out.sure)
            have hsm2 : Hid (sameL ((zs.take ns.length).map fun x => x.d) (ns.map fun x => x.d) = true) := Lib.hid (same_eq (by rw [List.map_take, hzs.out, hx2.out, hxl2.out]))
            have hsu2 : Hid ((S2.sure : Int) = (ns.length : Int)) := Lib.hid (by rw [hxl2.out])
            have g24 : decide ((zs.length : Int) < (ns.length : Int)) = false := decide_eq_false (by have := hle.out; omega)
            have g24' : decide (zs.length < ns.length) = false := decide_eq_false (by have := hle.out; omega)
            have g24b : ((ns.length : Int) != (ns.length : Int)) = false := bne_self_eq_false _
            have g24c : (ns.length != ns.length) = false := bne_self_eq_false _
            refine wp_region_N [(0, 1), (1, 1), (2, 1), (3, 1), (4, 1), (5, 1), (6, 1), (7, 1), (8, 1), (9, 1), (10, 1), (11, 3), (12, 1), (13, 1), (14, 1), (15, 1), (16, 3), (17, 1), (18, 1), (19, 1), (20, 1)] (by kernel_rfl) ?_
            refine wpS_this [0, 1, 2, 3, 4, 5, 6, 7, 8] rfl (by kernel_rfl) (by simp only [pickL, nthL, List.cons_append, List.nil_append]; rfl) ?_
            repeat (go_big_quiet_step (fail))
            refine wpQuiet_nil ?_
            refine wpS_read (i := 9) (d := some 104) rfl (by rfl) (run_headE (E := elemDx) (k := ns.length) (Nat.le_trans hle.out (row_cap (Mem.src HM63.out 0 rfl rowT_reads))) rfl rfl rfl) rfl ?_
            simp only [Act.put, List.setIfInBounds_toArray, List.set_cons_succ, List.set_cons_zero]
            refine wpS_this [10] rfl (by kernel_rfl) (by simp only [pickL, nthL, List.cons_append, List.nil_append]; rfl) ?_
            repeat (go_big_quiet_step (fail))
            refine wpQuiet_nil ?_
            refine wpS_does2 (i := 11) (d := some 106) (rem := [_, _, _, _, _, _, _]) (out := [_, _, _, _, _, _, _, _, _, _, _]) rfl (by rfl) rfl Try.call25 (Does.ofList (sameL_d (listT [_, _, _, _]) _ _ (zs.take ns.length) ns (head_rowL 0 rfl rowT_reads hle.out) (vRowE 2 rfl rowT_reads) (take_reads 1 rfl (lg_reads hS2.out (lg_all hzs.out))) (all_reads 3 rfl (lg_reads hS2.out hx2.out)) (by rw [List.length_take]; have := hl2.out; omega))) rfl rfl HM63.out [0, 0, 1, 1] rfl covS_nil rfl rfl ?_
            rintro W65 hm64 -
            rw [hsm2.out]
            have HM66 := Lib.hid hm64
            clear hm64
            simp only [Act.put, List.setIfInBounds_toArray, List.set_cons_succ, List.set_cons_zero]
            refine wpS_this [12, 13, 14, 15] rfl (by kernel_rfl) (by simp only [pickL, nthL, List.cons_append, List.nil_append]; rfl) ?_
            repeat (go_big_quiet_step (fail))
            refine wpQuiet_nil ?_
            refine wpS_does1 (i := 16) (d := some 111) (rem := [_, _, _, _, _, _, _, _, _, _]) (out := [_, _, _, _, _, _, _, _, _, _, _]) rfl (by rfl) rfl Try.call23 (lsure_d d S2 hS2.out) rfl HM66.out [4] rfl covS_nil rfl rfl ?_
            rintro W68 hm67 -
            rw [hsu2.out]
            have HM69 := Lib.hid hm67
            clear hm67
            simp only [Act.put, List.setIfInBounds_toArray, List.set_cons_succ, List.set_cons_zero]
            refine wpS_this [17, 18, 19, 20] rfl (by kernel_rfl) (by simp only [pickL, nthL, List.cons_append, List.nil_append]; rfl) ?_
            repeat (go_big_quiet_step (fail))
            refine wpQuiet_nil ?_
            refine wpS_nil ?_
            refine then_normal ?_
            refine wp_cond_false rfl ?_
            refine wp_skip ?_
            refine block_normal ?_
            refine then_normal ?_
            refine wp_region_N [(0, 1), (1, 1)] (by kernel_rfl) ?_
            refine wpS_this [0, 1] rfl (by kernel_rfl) (by simp only [pickL, nthL, List.cons_append, List.nil_append]; rfl) ?_
            repeat (go_big_quiet_step (fail))
            refine wpQuiet_nil ?_
            refine wpS_nil ?_
            refine then_normal ?_
            refine ⟨by kernel_rfl, ?_⟩
            exact ⟨l.length - (k + 1), by omega, k + 1, S2, ns, pn, cn, rfl, rfl, rfl, hk1, hS2.out, hr2.out, hx2.out, (Mem.only (M := [_, _, _, _]) HM69.out [0, 2, 2, 7] rfl)⟩
      · have ge : (y.op == 0) = false := beq_eq_false_iff_ne.2 ho
        have ge1 : (y.op == 1) = false := beq_eq_false_iff_ne.2 ho2
        clear ho ho2
        refine wp_region_N [(0, 1), (1, 1)] (by kernel_rfl) ?_
        refine wpS_this [0, 1] rfl (by kernel_rfl) (by simp only [pickL, nthL, List.cons_append, List.nil_append]; rfl) ?_
        repeat (go_big_quiet_step (fail))
        refine wpQuiet_nil ?_
        refine wpS_nil ?_
        refine then_normal ?_
        refine wp_cond_false rfl ?_
        refine wp_seq ?_
        refine wp_region_N [(0, 1), (1, 1)] (by kernel_rfl) ?_
        refine wpS_this [0, 1] rfl (by kernel_rfl) (by simp only [pickL, nthL, List.cons_append, List.nil_append]; rfl) ?_
        repeat (go_big_quiet_step (fail))
        refine wpQuiet_nil ?_
        refine wpS_nil ?_
        refine then_normal ?_
        refine wp_cond_false rfl ?_
        refine wp_seq ?_
        rcases (show mayD y.x.d = false ∨ (mayD y.x.d = true ∧ 100 ≤ S.l.length) ∨ (mayD y.x.d = true ∧ ¬ 100 ≤ S.l.length) from by cases mayD y.x.d <;> by_cases q : 100 ≤ S.l.length <;> simp [q]) with hm1 | ⟨hm1, hm2⟩ | ⟨hm1, hm2⟩
        · obtain ⟨S2, hS2e⟩ : ∃ x, S = x := ⟨_, rfl⟩
          have hwr : Hid (writeL S y.x.d = (S2, 1)) := Lib.hid (by rw [← hS2e]; exact write_no (S := S) hm1)
          have hmy := Lib.hid hm1
          clear hm1
          have hS2 : Hid (LgOk S2) := Lib.hid (hS2e ▸ hS.out)
          have hr2 : Hid (S2.room = 100) := Lib.hid (by rw [← hS2e]; exact hr.out)
          have hx2 : Hid (xs.map (fun x => x.d) = S2.l.take S2.sure) := Lib.hid (by rw [← hS2e]; exact hxs.out)
          clear hS2e
          refine wp_region_N [(0, 1), (1, 1), (2, 1), (3, 3), (4, 1)] (by kernel_rfl) ?_
          refine wpS_this [0, 1] rfl (by kernel_rfl) (by simp only [pickL, nthL, List.cons_append, List.nil_append]; rfl) ?_
          repeat (go_big_quiet_step (fail))
          refine wpQuiet_nil ?_
          refine wpS_loadA (i := 2) (d := some 29) (cells := y.x.enc) rfl (by rfl) rfl rfl (HM29.out.part 3 rfl (fun _ _ h => sub_app [_, _] _ [] h)) Try.underlying43 rfl (by kernel_rfl) rfl ?_
          simp only [Act.put, List.setIfInBounds_toArray, List.set_cons_succ, List.set_cons_zero]
          refine wpS_does2 (i := 3) (d := some 30) (rem := [_, _, _, _, _]) (out := [_, _, _, _, _, _, _]) rfl (by rfl) rfl Try.call20 (lwrite_d _ d S y.x.d _ _ (DxR.old hyq.out.1 hyv.out hyq.out.2 hyr.out) hS.out) rfl rfl HM29.out [2, 5] rfl covS_nil rfl rfl ?_
          rintro W71 hm70 -
          rw [hwr.out] at hm70 ⊢
          have HM72 := Lib.hid hm70
          clear hm70
          simp only [Act.put, List.setIfInBounds_toArray, List.set_cons_succ, List.set_cons_zero]
          refine wpS_this [4] rfl (by kernel_rfl) (by simp only [pickL, nthL, List.cons_append, List.nil_append]; rfl) ?_
          repeat (go_big_quiet_step (fail))
          refine wpQuiet_nil ?_
          refine wpS_nil ?_
          refine then_normal ?_
          refine wp_seq ?_
          refine wp_region_N [(0, 1), (1, 1), (2, 1), (3, 1), (4, 3), (5, 1), (6, 1), (7, 1), (8, 1), (9, 1), (10, 1)] (by kernel_rfl) ?_
          refine wpS_this [0, 1, 2] rfl (by kernel_rfl) (by simp only [pickL, nthL, List.cons_append, List.nil_append]; rfl) ?_
          repeat (go_big_quiet_step (fail))
          refine wpQuiet_nil ?_
          refine wpS_loadA (i := 3) (d := some 34) (cells := y.x.enc) rfl (by rfl) rfl rfl (HM72.out.part 4 rfl (fun _ _ h => sub_app [_, _] _ [] h)) Try.underlying43 rfl (by kernel_rfl) rfl ?_
          simp only [Act.put, List.setIfInBounds_toArray, List.set_cons_succ, List.set_cons_zero]
          refine wpS_does1 (i := 4) (d := some 35) (rem := [_, _, _, _, _, _]) (out := [_, _, _, _, _, _, _]) rfl (by rfl) rfl Try.call12 (lmay_d (oldT W0) _ _ y.x.d (DxR.old hyq.out.1 hyv.out hyq.out.2 hyr.out)) rfl HM72.out [1] rfl covS_nil rfl rfl ?_
          rintro W74 hm73 -
          rw [hmy.out]
          have HM75 := Lib.hid hm73
          clear hm73
          simp only [Act.put, List.setIfInBounds_toArray, List.set_cons_succ, List.set_cons_zero]
          refine wpS_this [5, 6, 7, 8, 9, 10] rfl (by kernel_rfl) (by simp only [pickL, nthL, List.cons_append, List.nil_append]; rfl) ?_
          repeat (go_big_quiet_step (fail))
          refine wpQuiet_nil ?_
          refine wpS_nil ?_
          refine then_normal ?_
          refine wp_cond_false rfl ?_
          refine wp_skip ?_
          refine block_normal ?_
          refine then_normal ?_
          refine wp_seq ?_
          refine wp_region_N [(0, 1), (1, 3), (2, 1)] (by kernel_rfl) ?_
          refine wpS_this [0] rfl (by kernel_rfl) (by simp only [pickL, nthL, List.cons_append, List.nil_append]; rfl) ?_
          repeat (go_big_quiet_step (fail))
          refine wpQuiet_nil ?_
          refine wpS_doesU1 (i := 1) (d := some 94) (rem := [_, _, _, _, _, _]) rfl (by rfl) rfl Try.call26 (lall_d d S2 hS2.out) rfl HM75.out [1] rfl covS_nil (fun _ => rfl) rfl ?_
          rintro u78 W77 hm76 -
          obtain ⟨zs, pz, cz, hzs', rfl, hm76q⟩ := Mem.alR hm76
          clear hm76
          have hzs := Lib.hid hzs'
          clear hzs'
          have HM79 := Lib.hid hm76q
          clear hm76q
          simp only [Act.put, List.setIfInBounds_toArray, List.set_cons_succ, List.set_cons_zero]
          refine wpS_this [2] rfl (by kernel_rfl) (by simp only [pickL, nthL, List.cons_append, List.nil_append]; rfl) ?_
          repeat (go_big_quiet_step (fail))
          refine wpQuiet_nil ?_
          refine wpS_nil ?_
          refine then_normal ?_
          refine wp_seq ?_
          have hzl : Hid (zs.length = S2.l.length) := Lib.hid (lg_len hzs.out)
          have hxl2 : Hid (xs.length = S2.sure) := Lib.hid (by rw [← List.length_map (f := fun x : Dx => x.d), hx2.out, List.length_take]; have := hS2.out.sure; omega)
          have hl2 : Hid (xs.length ≤ 3000) := Lib.hid (by rw [hxl2.out]; have := hS2.out.sure; have := hS2.out.len; have := hS2.out.room; omega)
          have hle : Hid (xs.length ≤ zs.length) := Lib.hid (by rw [hxl2.out, hzl.out]; exact hS2.out.sure)
          have hsm2 : Hid (sameL ((zs.take xs.length).map fun x => x.d) (xs.map fun x => x.d) = true) := Lib.hid (same_eq (by rw [List.map_take, hzs.out, hx2.out, hxl2.out]))
          have hsu2 : Hid ((S2.sure : Int) = (xs.length : Int)) := Lib.hid (by rw [hxl2.out])
          have g24 : decide ((zs.length : Int) < (xs.length : Int)) = false := decide_eq_false (by have := hle.out; omega)
          have g24' : decide (zs.length < xs.length) = false := decide_eq_false (by have := hle.out; omega)
          have g24b : ((xs.length : Int) != (xs.length : Int)) = false := bne_self_eq_false _
          have g24c : (xs.length != xs.length) = false := bne_self_eq_false _
          refine wp_region_N [(0, 1), (1, 1), (2, 1), (3, 1), (4, 1), (5, 1), (6, 1), (7, 1), (8, 1), (9, 1), (10, 1), (11, 3), (12, 1), (13, 1), (14, 1), (15, 1), (16, 3), (17, 1), (18, 1), (19, 1), (20, 1)] (by kernel_rfl) ?_
          refine wpS_this [0, 1, 2, 3, 4, 5, 6, 7, 8] rfl (by kernel_rfl) (by simp only [pickL, nthL, List.cons_append, List.nil_append]; rfl) ?_
          repeat (go_big_quiet_step (fail))
          refine wpQuiet_nil ?_
          refine wpS_read (i := 9) (d := some 104) rfl (by rfl) (run_headE (E := elemDx) (k := xs.length) (Nat.le_trans hle.out (row_cap (Mem.src HM79.out 0 rfl rowT_reads))) rfl rfl rfl) rfl ?_
          simp only [Act.put, List.setIfInBounds_toArray, List.set_cons_succ, List.set_cons_zero]
          refine wpS_this [10] rfl (by kernel_rfl) (by simp only [pickL, nthL, List.cons_append, List.nil_append]; rfl) ?_
          repeat (go_big_quiet_step (fail))
          refine wpQuiet_nil ?_
          refine wpS_does2 (i := 11) (d := some 106) (rem := [_, _, _, _, _]) (out := [_, _, _, _, _, _, _, _, _]) rfl (by rfl) rfl Try.call25 (Does.ofList (sameL_d (listT [_, _, _, _]) _ _ (zs.take xs.length) xs (head_rowL 0 rfl rowT_reads hle.out) (vRowE 2 rfl rowT_reads) (take_reads 1 rfl (lg_reads hS2.out (lg_all hzs.out))) (all_reads 3 rfl (lg_reads hS2.out hx2.out)) (by rw [List.length_take]; have := hl2.out; omega))) rfl rfl HM79.out [0, 0, 5, 5] rfl covS_nil rfl rfl ?_
          rintro W81 hm80 -
          rw [hsm2.out]
          have HM82 := Lib.hid hm80
          clear hm80
          simp only [Act.put, List.setIfInBounds_toArray, List.set_cons_succ, List.set_cons_zero]
          refine wpS_this [12, 13, 14, 15] rfl (by kernel_rfl) (by simp only [pickL, nthL, List.cons_append, List.nil_append]; rfl) ?_
          repeat (go_big_quiet_step (fail))
          refine wpQuiet_nil ?_
          refine wpS_does1 (i := 16) (d := some 111) (rem := [_, _, _, _, _, _, _, _]) (out := [_, _, _, _, _, _, _, _, _]) rfl (by rfl) rfl Try.call23 (lsure_d d S2 hS2.out) rfl HM82.out [4] rfl covS_nil rfl rfl ?_
          rintro W84 hm83 -
          rw [hsu2.out]
          have HM85 := Lib.hid hm83
          clear hm83
          simp only [Act.put, List.setIfInBounds_toArray, List.set_cons_succ, List.set_cons_zero]
          refine wpS_this [17, 18, 19, 20] rfl (by kernel_rfl) (by simp only [pickL, nthL, List.cons_append, List.nil_append]; rfl) ?_
          repeat (go_big_quiet_step (fail))
          refine wpQuiet_nil ?_
          refine wpS_nil ?_
          refine then_normal ?_
          refine wp_cond_false rfl ?_
          refine wp_skip ?_
          refine block_normal ?_
          refine then_normal ?_
          refine wp_region_N [(0, 1), (1, 1)] (by kernel_rfl) ?_
          refine wpS_this [0, 1] rfl (by kernel_rfl) (by simp only [pickL, nthL, List.cons_append, List.nil_append]; rfl) ?_
          repeat (go_big_quiet_step (fail))
          refine wpQuiet_nil ?_
          refine wpS_nil ?_
          refine then_normal ?_
          refine ⟨by kernel_rfl, ?_⟩
          exact ⟨l.length - (k + 1), by omega, k + 1, S2, xs, p, c, rfl, rfl, rfl, hk1, hS2.out, hr2.out, hx2.out, (Mem.only (M := [_, _, _, _]) HM85.out [0, 2, 2, 2] rfl)⟩
        · obtain ⟨S2, hS2e⟩ : ∃ x, S = x := ⟨_, rfl⟩
          have hwr : Hid (writeL S y.x.d = (S2, 5)) := Lib.hid (by rw [← hS2e]; exact write_full (S := S) hm1 (by rw [hr.out]; exact hm2))
          have hmy := Lib.hid hm1
          have gl : decide ((ws.length : Int) < 100) = false := decide_eq_false (by rw [lg_len hws.out]; omega)
          have gl' : decide (ws.length < 100) = false := decide_eq_false (by rw [lg_len hws.out]; omega)
          clear hm1 hm2
          have hS2 : Hid (LgOk S2) := Lib.hid (hS2e ▸ hS.out)
          have hr2 : Hid (S2.room = 100) := Lib.hid (by rw [← hS2e]; exact hr.out)
          have hx2 : Hid (xs.map (fun x => x.d) = S2.l.take S2.sure) := Lib.hid (by rw [← hS2e]; exact hxs.out)
          clear hS2e
          refine wp_region_N [(0, 1), (1, 1), (2, 1), (3, 3), (4, 1)] (by kernel_rfl) ?_
          refine wpS_this [0, 1] rfl (by kernel_rfl) (by simp only [pickL, nthL, List.cons_append, List.nil_append]; rfl) ?_
          repeat (go_big_quiet_step (fail))
          refine wpQuiet_nil ?_
          refine wpS_loadA (i := 2) (d := some 29) (cells := y.x.enc) rfl (by rfl) rfl rfl (HM29.out.part 3 rfl (fun _ _ h => sub_app [_, _] _ [] h)) Try.underlying43 rfl (by kernel_rfl) rfl ?_
          simp only [Act.put, List.setIfInBounds_toArray, List.set_cons_succ, List.set_cons_zero]
          refine wpS_does2 (i := 3) (d := some 30) (rem := [_, _, _, _, _]) (out := [_, _, _, _, _, _, _]) rfl (by rfl) rfl Try.call20 (lwrite_d _ d S y.x.d _ _ (DxR.old hyq.out.1 hyv.out hyq.out.2 hyr.out) hS.out) rfl rfl HM29.out [2, 5] rfl covS_nil rfl rfl ?_
          rintro W87 hm86 -
          rw [hwr.out] at hm86 ⊢
          have HM88 := Lib.hid hm86
          clear hm86
          simp only [Act.put, List.setIfInBounds_toArray, List.set_cons_succ, List.set_cons_zero]
          refine wpS_this [4] rfl (by kernel_rfl) (by simp only [pickL, nthL, List.cons_append, List.nil_append]; rfl) ?_
          repeat (go_big_quiet_step (fail))
          refine wpQuiet_nil ?_
          refine wpS_nil ?_
          refine then_normal ?_
          refine wp_seq ?_
          refine wp_region_N [(0, 1), (1, 1), (2, 1), (3, 1), (4, 3), (5, 1), (6, 1), (7, 1), (8, 1), (9, 1), (10, 1)] (by kernel_rfl) ?_
          refine wpS_this [0, 1, 2] rfl (by kernel_rfl) (by simp only [pickL, nthL, List.cons_append, List.nil_append]; rfl) ?_
          repeat (go_big_quiet_step (fail))
          refine wpQuiet_nil ?_
          refine wpS_loadA (i := 3) (d := some 34) (cells := y.x.enc) rfl (by rfl) rfl rfl (HM88.out.part 4 rfl (fun _ _ h => sub_app [_, _] _ [] h)) Try.underlying43 rfl (by kernel_rfl) rfl ?_
          simp only [Act.put, List.setIfInBounds_toArray, List.set_cons_succ, List.set_cons_zero]
          refine wpS_does1 (i := 4) (d := some 35) (rem := [_, _, _, _, _, _]) (out := [_, _, _, _, _, _, _]) rfl (by rfl) rfl Try.call12 (lmay_d (oldT W0) _ _ y.x.d (DxR.old hyq.out.1 hyv.out hyq.out.2 hyr.out)) rfl HM88.out [1] rfl covS_nil rfl rfl ?_
          rintro W90 hm89 -
          rw [hmy.out]
          have HM91 := Lib.hid hm89
          clear hm89
          simp only [Act.put, List.setIfInBounds_toArray, List.set_cons_succ, List.set_cons_zero]
          refine wpS_this [5, 6, 7, 8, 9, 10] rfl (by kernel_rfl) (by simp only [pickL, nthL, List.cons_append, List.nil_append]; rfl) ?_
          repeat (go_big_quiet_step (fail))
          refine wpQuiet_nil ?_
          refine wpS_nil ?_
          refine then_normal ?_
          refine wp_cond_false rfl ?_
          refine wp_skip ?_
          refine block_normal ?_
          refine then_normal ?_
          refine wp_seq ?_
          refine wp_region_N [(0, 1), (1, 3), (2, 1)] (by kernel_rfl) ?_
          refine wpS_this [0] rfl (by kernel_rfl) (by simp only [pickL, nthL, List.cons_append, List.nil_append]; rfl) ?_
          repeat (go_big_quiet_step (fail))
          refine wpQuiet_nil ?_
          refine wpS_doesU1 (i := 1) (d := some 94) (rem := [_, _, _, _, _, _]) rfl (by rfl) rfl Try.call26 (lall_d d S2 hS2.out) rfl HM91.out [1] rfl covS_nil (fun _ => rfl) rfl ?_
          rintro u94 W93 hm92 -
          obtain ⟨zs, pz, cz, hzs', rfl, hm92q⟩ := Mem.alR hm92
          clear hm92
          have hzs := Lib.hid hzs'
          clear hzs'
          have HM95 := Lib.hid hm92q
          clear hm92q
          simp only [Act.put, List.setIfInBounds_toArray, List.set_cons_succ, List.set_cons_zero]
          refine wpS_this [2] rfl (by kernel_rfl) (by simp only [pickL, nthL, List.cons_append, List.nil_append]; rfl) ?_
          repeat (go_big_quiet_step (fail))
          refine wpQuiet_nil ?_
          refine wpS_nil ?_
          refine then_normal ?_
          refine wp_seq ?_
          have hzl : Hid (zs.length = S2.l.length) := Lib.hid (lg_len hzs.out)
          have hxl2 : Hid (xs.length = S2.sure) := Lib.hid (by rw [← List.length_map (f := fun x : Dx => x.d), hx2.out, List.length_take]; have := hS2.out.sure; omega)
          have hl2 : Hid (xs.length ≤ 3000) := Lib.hid (by rw [hxl2.out]; have := hS2.out.sure; have := hS2.out.len; have := hS2.out.room; omega)
          have hle : Hid (xs.length ≤ zs.length) := Lib.hid (by rw [hxl2.out, hzl.out]; exact hS2.out.sure)
          have hsm2 : Hid (sameL ((zs.take xs.length).map fun x => x.d) (xs.map fun x => x.d) = true) := Lib.hid (same_eq (by rw [List.map_take, hzs.out, hx2.out, hxl2.out]))
          have hsu2 : Hid ((S2.sure : Int) = (xs.length : Int)) := Lib.hid (by rw [hxl2.out])
          have g24 : decide ((zs.length : Int) < (xs.length : Int)) = false := decide_eq_false (by have := hle.out; omega)
          have g24' : decide (zs.length < xs.length) = false := decide_eq_false (by have := hle.out; omega)
          have g24b : ((xs.length : Int) != (xs.length : Int)) = false := bne_self_eq_false _
          have g24c : (xs.length != xs.length) = false := bne_self_eq_false _
          refine wp_region_N [(0, 1), (1, 1), (2, 1), (3, 1), (4, 1), (5, 1), (6, 1), (7, 1), (8, 1), (9, 1), (10, 1), (11, 3), (12, 1), (13, 1), (14, 1), (15, 1), (16, 3), (17, 1), (18, 1), (19, 1), (20, 1)] (by kernel_rfl) ?_
          refine wpS_this [0, 1, 2, 3, 4, 5, 6, 7, 8] rfl (by kernel_rfl) (by simp only [pickL, nthL, List.cons_append, List.nil_append]; rfl) ?_
          repeat (go_big_quiet_step (fail))
          refine wpQuiet_nil ?_
          refine wpS_read (i := 9) (d := some 104) rfl (by rfl) (run_headE (E := elemDx) (k := xs.length) (Nat.le_trans hle.out (row_cap (Mem.src HM95.out 0 rfl rowT_reads))) rfl rfl rfl) rfl ?_
          simp only [Act.put, List.setIfInBounds_toArray, List.set_cons_succ, List.set_cons_zero]
          refine wpS_this [10] rfl (by kernel_rfl) (by simp only [pickL, nthL, List.cons_append, List.nil_append]; rfl) ?_
          repeat (go_big_quiet_step (fail))
          refine wpQuiet_nil ?_
          refine wpS_does2 (i := 11) (d := some 106) (rem := [_, _, _, _, _]) (out := [_, _, _, _, _, _, _, _, _]) rfl (by rfl) rfl Try.call25 (Does.ofList (sameL_d (listT [_, _, _, _]) _ _ (zs.take xs.length) xs (head_rowL 0 rfl rowT_reads hle.out) (vRowE 2 rfl rowT_reads) (take_reads 1 rfl (lg_reads hS2.out (lg_all hzs.out))) (all_reads 3 rfl (lg_reads hS2.out hx2.out)) (by rw [List.length_take]; have := hl2.out; omega))) rfl rfl HM95.out [0, 0, 5, 5] rfl covS_nil rfl rfl ?_
          rintro W97 hm96 -
          rw [hsm2.out]
          have HM98 := Lib.hid hm96
          clear hm96
          simp only [Act.put, List.setIfInBounds_toArray, List.set_cons_succ, List.set_cons_zero]
          refine wpS_this [12, 13, 14, 15] rfl (by kernel_rfl) (by simp only [pickL, nthL, List.cons_append, List.nil_append]; rfl) ?_
          repeat (go_big_quiet_step (fail))
          refine wpQuiet_nil ?_
          refine wpS_does1 (i := 16) (d := some 111) (rem := [_, _, _, _, _, _, _, _]) (out := [_, _, _, _, _, _, _, _, _]) rfl (by rfl) rfl Try.call23 (lsure_d d S2 hS2.out) rfl HM98.out [4] rfl covS_nil rfl rfl ?_
          rintro W100 hm99 -
          rw [hsu2.out]
          have HM101 := Lib.hid hm99
          clear hm99
          simp only [Act.put, List.setIfInBounds_toArray, List.set_cons_succ, List.set_cons_zero]
          refine wpS_this [17, 18, 19, 20] rfl (by kernel_rfl) (by simp only [pickL, nthL, List.cons_append, List.nil_append]; rfl) ?_
          repeat (go_big_quiet_step (fail))
          refine wpQuiet_nil ?_
          refine wpS_nil ?_
          refine then_normal ?_
          refine wp_cond_false rfl ?_
          refine wp_skip ?_
          refine block_normal ?_
          refine then_normal ?_
          refine wp_region_N [(0, 1), (1, 1)] (by kernel_rfl) ?_
          refine wpS_this [0, 1] rfl (by kernel_rfl) (by simp only [pickL, nthL, List.cons_append, List.nil_append]; rfl) ?_
          repeat (go_big_quiet_step (fail))
          refine wpQuiet_nil ?_
          refine wpS_nil ?_
          refine then_normal ?_
          refine ⟨by kernel_rfl, ?_⟩
          exact ⟨l.length - (k + 1), by omega, k + 1, S2, xs, p, c, rfl, rfl, rfl, hk1, hS2.out, hr2.out, hx2.out, (Mem.only (M := [_, _, _, _]) HM101.out [0, 2, 2, 2] rfl)⟩
        · obtain ⟨S2, hS2e⟩ : ∃ x, x = (⟨S.room, S.sure, S.l ++ [y.x.d]⟩ : Lg) := ⟨_, rfl⟩
          have hwr : Hid (writeL S y.x.d = (S2, 0)) := Lib.hid (by rw [hS2e]; exact write_ok hm1 (by rw [hr.out]; exact hm2))
          have hS2 : Hid (LgOk S2) := Lib.hid (by have q := hS.out.write y.x.d; rwa [hwr.out] at q)
          have hr2 : Hid (S2.room = 100) := Lib.hid (by rw [hS2e]; exact hr.out)
          have hx2 : Hid (xs.map (fun x => x.d) = S2.l.take S2.sure) := Lib.hid (by rw [hS2e, hxs.out]; exact (List.take_append_of_le_length hS.out.sure).symm)
          have hmy := Lib.hid hm1
          have gl : decide ((ws.length : Int) < 100) = true := decide_eq_true (by rw [lg_len hws.out]; omega)
          have gl' : decide (ws.length < 100) = true := decide_eq_true (by rw [lg_len hws.out]; omega)
          clear hm1 hm2 hS2e
          refine wp_region_N [(0, 1), (1, 1), (2, 1), (3, 3), (4, 1)] (by kernel_rfl) ?_
          refine wpS_this [0, 1] rfl (by kernel_rfl) (by simp only [pickL, nthL, List.cons_append, List.nil_append]; rfl) ?_
          repeat (go_big_quiet_step (fail))
          refine wpQuiet_nil ?_
          refine wpS_loadA (i := 2) (d := some 29) (cells := y.x.enc) rfl (by rfl) rfl rfl (HM29.out.part 3 rfl (fun _ _ h => sub_app [_, _] _ [] h)) Try.underlying43 rfl (by kernel_rfl) rfl ?_
          simp only [Act.put, List.setIfInBounds_toArray, List.set_cons_succ, List.set_cons_zero]
          refine wpS_does2 (i := 3) (d := some 30) (rem := [_, _, _, _, _]) (out := [_, _, _, _, _, _, _]) rfl (by rfl) rfl Try.call20 (lwrite_d _ d S y.x.d _ _ (DxR.old hyq.out.1 hyv.out hyq.out.2 hyr.out) hS.out) rfl rfl HM29.out [2, 5] rfl covS_nil rfl rfl ?_
          rintro W103 hm102 -
          rw [hwr.out] at hm102 ⊢
          have HM104 := Lib.hid hm102
          clear hm102
          simp only [Act.put, List.setIfInBounds_toArray, List.set_cons_succ, List.set_cons_zero]
          refine wpS_this [4] rfl (by kernel_rfl) (by simp only [pickL, nthL, List.cons_append, List.nil_append]; rfl) ?_
          repeat (go_big_quiet_step (fail))
          refine wpQuiet_nil ?_
          refine wpS_nil ?_
          refine then_normal ?_
          refine wp_seq ?_
          refine wp_region_N [(0, 1), (1, 1), (2, 1), (3, 1), (4, 3), (5, 1), (6, 1), (7, 1), (8, 1), (9, 1), (10, 1)] (by kernel_rfl) ?_
          refine wpS_this [0, 1, 2] rfl (by kernel_rfl) (by simp only [pickL, nthL, List.cons_append, List.nil_append]; rfl) ?_
          repeat (go_big_quiet_step (fail))
          refine wpQuiet_nil ?_
          refine wpS_loadA (i := 3) (d := some 34) (cells := y.x.enc) rfl (by rfl) rfl rfl (HM104.out.part 4 rfl (fun _ _ h => sub_app [_, _] _ [] h)) Try.underlying43 rfl (by kernel_rfl) rfl ?_
          simp only [Act.put, List.setIfInBounds_toArray, List.set_cons_succ, List.set_cons_zero]
          refine wpS_does1 (i := 4) (d := some 35) (rem := [_, _, _, _, _, _]) (out := [_, _, _, _, _, _, _]) rfl (by rfl) rfl Try.call12 (lmay_d (oldT W0) _ _ y.x.d (DxR.old hyq.out.1 hyv.out hyq.out.2 hyr.out)) rfl HM104.out [1] rfl covS_nil rfl rfl ?_
          rintro W106 hm105 -
          rw [hmy.out]
          have HM107 := Lib.hid hm105
          clear hm105
          simp only [Act.put, List.setIfInBounds_toArray, List.set_cons_succ, List.set_cons_zero]
          refine wpS_this [5, 6, 7, 8, 9, 10] rfl (by kernel_rfl) (by simp only [pickL, nthL, List.cons_append, List.nil_append]; rfl) ?_
          repeat (go_big_quiet_step (fail))
          refine wpQuiet_nil ?_
          refine wpS_nil ?_
          refine then_normal ?_
          refine wp_cond_false rfl ?_
          refine wp_skip ?_
          refine block_normal ?_
          refine then_normal ?_
          refine wp_seq ?_
          refine wp_region_N [(0, 1), (1, 3), (2, 1)] (by kernel_rfl) ?_
          refine wpS_this [0] rfl (by kernel_rfl) (by simp only [pickL, nthL, List.cons_append, List.nil_append]; rfl) ?_
          repeat (go_big_quiet_step (fail))
          refine wpQuiet_nil ?_
          refine wpS_doesU1 (i := 1) (d := some 94) (rem := [_, _, _, _, _, _]) rfl (by rfl) rfl Try.call26 (lall_d d S2 hS2.out) rfl HM107.out [1] rfl covS_nil (fun _ => rfl) rfl ?_
          rintro u110 W109 hm108 -
          obtain ⟨zs, pz, cz, hzs', rfl, hm108q⟩ := Mem.alR hm108
          clear hm108
          have hzs := Lib.hid hzs'
          clear hzs'
          have HM111 := Lib.hid hm108q
          clear hm108q
          simp only [Act.put, List.setIfInBounds_toArray, List.set_cons_succ, List.set_cons_zero]
          refine wpS_this [2] rfl (by kernel_rfl) (by simp only [pickL, nthL, List.cons_append, List.nil_append]; rfl) ?_
          repeat (go_big_quiet_step (fail))
          refine wpQuiet_nil ?_
          refine wpS_nil ?_
          refine then_normal ?_
          refine wp_seq ?_
          have hzl : Hid (zs.length = S2.l.length) := Lib.hid (lg_len hzs.out)
          have hxl2 : Hid (xs.length = S2.sure) := Lib.hid (by rw [← List.length_map (f := fun x : Dx => x.d), hx2.out, List.length_take]; have := hS2.out.sure; omega)
          have hl2 : Hid (xs.length ≤ 3000) := Lib.hid (by rw [hxl2.out]; have := hS2.out.sure; have := hS2.out.len; have := hS2.out.room; omega)
          have hle : Hid (xs.length ≤ zs.length) := Lib.hid (by rw [hxl2.out, hzl.out]; exact hS2.out.sure)
          have hsm2 : Hid (sameL ((zs.take xs.length).map fun x => x.d) (xs.map fun x => x.d) = true) := Lib.hid (same_eq (by rw [List.map_take, hzs.out, hx2.out, hxl2.out]))
          have hsu2 : Hid ((S2.sure : Int) = (xs.length : Int)) := Lib.hid (by rw [hxl2.out])
          have g24 : decide ((zs.length : Int) < (xs.length : Int)) = false := decide_eq_false (by have := hle.out; omega)
          have g24' : decide (zs.length < xs.length) = false := decide_eq_false (by have := hle.out; omega)
          have g24b : ((xs.length : Int) != (xs.length : Int)) = false := bne_self_eq_false _
          have g24c : (xs.length != xs.length) = false := bne_self_eq_false _
          refine wp_region_N [(0, 1), (1, 1), (2, 1), (3, 1), (4, 1), (5, 1), (6, 1), (7, 1), (8, 1), (9, 1), (10, 1), (11, 3), (12, 1), (13, 1), (14, 1), (15, 1), (16, 3), (17, 1), (18, 1), (19, 1), (20, 1)] (by kernel_rfl) ?_
          refine wpS_this [0, 1, 2, 3, 4, 5, 6, 7, 8] rfl (by kernel_rfl) (by simp only [pickL, nthL, List.cons_append, List.nil_append]; rfl) ?_
          repeat (go_big_quiet_step (fail))
          refine wpQuiet_nil ?_
          refine wpS_read (i := 9) (d := some 104) rfl (by rfl) (run_headE (E := elemDx) (k := xs.length) (Nat.le_trans hle.out (row_cap (Mem.src HM111.out 0 rfl rowT_reads))) rfl rfl rfl) rfl ?_
          simp only [Act.put, List.setIfInBounds_toArray, List.set_cons_succ, List.set_cons_zero]
          refine wpS_this [10] rfl (by kernel_rfl) (by simp only [pickL, nthL, List.cons_append, List.nil_append]; rfl) ?_
          repeat (go_big_quiet_step (fail))
          refine wpQuiet_nil ?_
          refine wpS_does2 (i := 11) (d := some 106) (rem := [_, _, _, _, _]) (out := [_, _, _, _, _, _, _, _, _]) rfl (by rfl) rfl Try.call25 (Does.ofList (sameL_d (listT [_, _, _, _]) _ _ (zs.take xs.length) xs (head_rowL 0 rfl rowT_reads hle.out) (vRowE 2 rfl rowT_reads) (take_reads 1 rfl (lg_reads hS2.out (lg_all hzs.out))) (all_reads 3 rfl (lg_reads hS2.out hx2.out)) (by rw [List.length_take]; have := hl2.out; omega))) rfl rfl HM111.out [0, 0, 5, 5] rfl covS_nil rfl rfl ?_
          rintro W113 hm112 -
          rw [hsm2.out]
          have HM114 := Lib.hid hm112
          clear hm112
          simp only [Act.put, List.setIfInBounds_toArray, List.set_cons_succ, List.set_cons_zero]
          refine wpS_this [12, 13, 14, 15] rfl (by kernel_rfl) (by simp only [pickL, nthL, List.cons_append, List.nil_append]; rfl) ?_
          repeat (go_big_quiet_step (fail))
          refine wpQuiet_nil ?_
          refine wpS_does1 (i := 16) (d := some 111) (rem := [_, _, _, _, _, _, _, _]) (out := [_, _, _, _, _, _, _, _, _]) rfl (by rfl) rfl Try.call23 (lsure_d d S2 hS2.out) rfl HM114.out [4] rfl covS_nil rfl rfl ?_
          rintro W116 hm115 -
          rw [hsu2.out]
          have HM117 := Lib.hid hm115
          clear hm115
          simp only [Act.put, List.setIfInBounds_toArray, List.set_cons_succ, List.set_cons_zero]
          refine wpS_this [17, 18, 19, 20] rfl (by kernel_rfl) (by simp only [pickL, nthL, List.cons_append, List.nil_append]; rfl) ?_
          repeat (go_big_quiet_step (fail))
          refine wpQuiet_nil ?_
          refine wpS_nil ?_
          refine then_normal ?_
          refine wp_cond_false rfl ?_
          refine wp_skip ?_
          refine block_normal ?_
          refine then_normal ?_
          refine wp_region_N [(0, 1), (1, 1)] (by kernel_rfl) ?_
          refine wpS_this [0, 1] rfl (by kernel_rfl) (by simp only [pickL, nthL, List.cons_append, List.nil_append]; rfl) ?_
          repeat (go_big_quiet_step (fail))
          refine wpQuiet_nil ?_
          refine wpS_nil ?_
          refine then_normal ?_
          refine ⟨by kernel_rfl, ?_⟩
          exact ⟨l.length - (k + 1), by omega, k + 1, S2, xs, p, c, rfl, rfl, rfl, hk1, hS2.out, hr2.out, hx2.out, (Mem.only (M := [_, _, _, _]) HM117.out [0, 2, 2, 2] rfl)⟩
    · have hge : Hid (l.length ≤ k) := Lib.hid (by have : ¬ (k : Int) < ((l.length : Nat) : Int) := (by simpa using h15); omega)
      clear h15
      refine wp_exit ?_
      refine then_exit (then_exit (block_exit ?_))
      refine then_normal ?_
      refine wp_seq ?_
      refine wp_region_N [(0, 3), (1, 1)] (by kernel_rfl) ?_
      refine wpS_does0 (i := 0) (d := some 117) (rem := [_, _, _, _]) (out := [_, _, _, _]) rfl (by rfl) rfl Try.call9 (awake_d)  HM14.out [] rfl covS_nil rfl rfl ?_
      rintro W119 hm118 -
      have HM120 := Lib.hid hm118
      clear hm118
      simp only [Act.put, List.setIfInBounds_toArray, List.set_cons_succ, List.set_cons_zero]
      refine wpS_this [1] rfl (by kernel_rfl) (by simp only [pickL, nthL, List.cons_append, List.nil_append]; rfl) ?_
      repeat (go_big_quiet_step (fail))
      refine wpQuiet_nil ?_
      refine wpS_nil ?_
      refine then_normal ?_
      refine wp_ret ?_
      refine bodyPost_ret (results_tmp rfl _ _ _) rfl ?_
      exact does_ret (Mem.only (M := [_]) HM120.out [3] rfl) rfl rfl

end Go.Proofs.Ytnahhbpaijfpbaa
