/- Givers: the same messages. -/
import Derived.Test.YtcchkkdbagpgjaaGreatQ12
import Derived.Test.YtcchkkdbagpgjaaGreatBgE
import Derived.Test.YtcchkkdbagpgjaaGreatPA
namespace Go.Proofs.YtcchkkdbagpgjaaGreat
open Go Go.RowKit Go.BigFrame
theorem run_neS {x y : Operand} {tt : TypeId} {a : Act} {o : Oper} {W : World} {s t : ByteArray} {b : Bool} (hb : (!decide (s = t)) = b) (ho : o.op = .binOp .neq 9 x y tt) (hx : a.eval x = .string s) (hy : a.eval y = .string t) : (execOp a.eval o).run Tryz.prog W = .ok (.value (.bool b)) W := by
 subst hb
 have hg : (eqGuard .neq 9 x y (.string s) (.string t)).run Tryz.prog W = .ok () W := by simp [eqGuard, go_sem]
 unfold execOp
 simp only [ho, hx, hy, Sem.run_bind, hg, Result.andThen_ok, binOp_string_neq, Sem.run_pure]
 rw [← bytes_beq]
def sameM (x y : Ms) : Bool := decide (x.kind = y.kind ∧ x.frm = y.frm ∧ x.dst = y.dst ∧ x.seq = y.seq ∧ x.part = y.part ∧ x.epoch = y.epoch ∧ x.key = y.key ∧ x.re = 0 ∧ x.abt = 0) && sameB x.b y.b
def sameMs : List Ms → List Ms → Bool
 | [], [] => true
 | x :: a, y :: b => sameM x y && sameMs a b
 | _, _ => false
def sameMx (a b : List Mx) : Int := if sameMs (a.map fun x => x.m) (b.map fun x => x.m) = true then 0 else 1
theorem sameMs_iff : ∀ {a b : List Ms}, sameMs a b = true ↔ a.length = b.length ∧ ∀ (i : Nat) (x y : Ms), a[i]? = some x → b[i]? = some y → sameM x y = true
 | [], [] => by simp [sameMs]
 | [], _ :: _ => by simp [sameMs]
 | _ :: _, [] => by simp [sameMs]
 | x :: a, y :: b => by
  unfold sameMs
  rw [Bool.and_eq_true, sameMs_iff]
  constructor
  ·rintro ⟨h1, h2, h3⟩
   refine ⟨by rw [List.length_cons, List.length_cons, h2], fun i u v hu hv => ?_⟩
   cases i with
   | zero =>
    cases hu
    cases hv
    exact h1
   | succ i => exact h3 i u v hu hv
  ·rintro ⟨h1, h2⟩
   exact ⟨h2 0 x y rfl rfl, Nat.succ.inj h1, fun i u v hu hv => h2 (i + 1) u v hu hv⟩
def SameTo (a b : List Mx) (i : Nat) : Prop := ∀ (j : Nat) (x y : Mx), j < i → a[j]? = some x → b[j]? = some y → sameM x.m y.m = true
theorem SameTo.zero (a b : List Mx) : SameTo a b 0 := fun _ _ _ h => absurd h (Nat.not_lt_zero _)
theorem SameTo.next {a b : List Mx} {i : Nat} {x y : Mx} (h : SameTo a b i) (hx : a[i]? = some x) (hy : b[i]? = some y) (hm : sameM x.m y.m = true) : SameTo a b (i + 1) := fun j u v hj hu hv => by
 rcases Nat.lt_succ_iff_lt_or_eq.1 hj with hj | rfl
 ·exact h j u v hj hu hv
 ·rw [hx] at hu
  rw [hy] at hv
  cases hu
  cases hv
  exact hm
theorem same_no {a b : List Mx} (h : a.length ≠ b.length) : sameMx a b = 1 := if_neg fun h1 => h (by have := (sameMs_iff.1 h1).1; rwa [List.length_map, List.length_map] at this)
theorem same_at {a b : List Mx} {i : Nat} {x y : Mx} (hx : a[i]? = some x) (hy : b[i]? = some y) (hm : sameM x.m y.m = false) : sameMx a b = 1 := if_neg fun h1 => by
 have := (sameMs_iff.1 h1).2 i x.m y.m (by rw [List.getElem?_map, hx]; rfl) (by rw [List.getElem?_map, hy]; rfl)
 rw [hm] at this
 cases this
theorem same_yes {a b : List Mx} {i : Nat} (hl : a.length = b.length) (h : SameTo a b i) (hi : a.length ≤ i) : sameMx a b = 0 := if_pos (sameMs_iff.2 ⟨by rw [List.length_map, List.length_map, hl], fun j u v hu hv => by
 rw [List.getElem?_map, Option.map_eq_some_iff] at hu hv
 obtain ⟨x, hx, rfl⟩ := hu
 obtain ⟨y, hy, rfl⟩ := hv
 exact h j x y (Nat.lt_of_lt_of_le (List.getElem?_eq_some_iff.1 hx).1 hi) hx hy⟩)
theorem ms_ways (x y : Ms) : (¬ x.kind = y.kind) ∨ (x.kind = y.kind ∧ ¬ x.frm = y.frm) ∨ (x.kind = y.kind ∧ x.frm = y.frm ∧ ¬ x.dst = y.dst) ∨ (x.kind = y.kind ∧ x.frm = y.frm ∧ x.dst = y.dst ∧ ¬ x.seq = y.seq) ∨ (x.kind = y.kind ∧ x.frm = y.frm ∧ x.dst = y.dst ∧ x.seq = y.seq ∧ ¬ x.part = y.part) ∨ (x.kind = y.kind ∧ x.frm = y.frm ∧ x.dst = y.dst ∧ x.seq = y.seq ∧ x.part = y.part ∧ ¬ x.epoch = y.epoch) ∨ (x.kind = y.kind ∧ x.frm = y.frm ∧ x.dst = y.dst ∧ x.seq = y.seq ∧ x.part = y.part ∧ x.epoch = y.epoch ∧ ¬ x.key = y.key) ∨ (x.kind = y.kind ∧ x.frm = y.frm ∧ x.dst = y.dst ∧ x.seq = y.seq ∧ x.part = y.part ∧ x.epoch = y.epoch ∧ x.key = y.key ∧ ¬ sameB x.b y.b = true) ∨ (x.kind = y.kind ∧ x.frm = y.frm ∧ x.dst = y.dst ∧ x.seq = y.seq ∧ x.part = y.part ∧ x.epoch = y.epoch ∧ x.key = y.key ∧ sameB x.b y.b = true ∧ ¬ x.re = 0) ∨ (x.kind = y.kind ∧ x.frm = y.frm ∧ x.dst = y.dst ∧ x.seq = y.seq ∧ x.part = y.part ∧ x.epoch = y.epoch ∧ x.key = y.key ∧ sameB x.b y.b = true ∧ x.re = 0 ∧ ¬ x.abt = 0) ∨ (x.kind = y.kind ∧ x.frm = y.frm ∧ x.dst = y.dst ∧ x.seq = y.seq ∧ x.part = y.part ∧ x.epoch = y.epoch ∧ x.key = y.key ∧ sameB x.b y.b = true ∧ x.re = 0 ∧ x.abt = 0) := by
 refine (Classical.em (x.kind = y.kind)).elim (fun h0 => ?_) (fun h => .inl h)
 refine .inr ?_
 refine (Classical.em (x.frm = y.frm)).elim (fun h1 => ?_) (fun h => .inl ⟨h0, h⟩)
 refine .inr ?_
 refine (Classical.em (x.dst = y.dst)).elim (fun h2 => ?_) (fun h => .inl ⟨h0, h1, h⟩)
 refine .inr ?_
 refine (Classical.em (x.seq = y.seq)).elim (fun h3 => ?_) (fun h => .inl ⟨h0, h1, h2, h⟩)
 refine .inr ?_
 refine (Classical.em (x.part = y.part)).elim (fun h4 => ?_) (fun h => .inl ⟨h0, h1, h2, h3, h⟩)
 refine .inr ?_
 refine (Classical.em (x.epoch = y.epoch)).elim (fun h5 => ?_) (fun h => .inl ⟨h0, h1, h2, h3, h4, h⟩)
 refine .inr ?_
 refine (Classical.em (x.key = y.key)).elim (fun h6 => ?_) (fun h => .inl ⟨h0, h1, h2, h3, h4, h5, h⟩)
 refine .inr ?_
 refine (Classical.em (sameB x.b y.b = true)).elim (fun h7 => ?_) (fun h => .inl ⟨h0, h1, h2, h3, h4, h5, h6, h⟩)
 refine .inr ?_
 refine (Classical.em (x.re = 0)).elim (fun h8 => ?_) (fun h => .inl ⟨h0, h1, h2, h3, h4, h5, h6, h7, h⟩)
 refine .inr ?_
 refine (Classical.em (x.abt = 0)).elim (fun h9 => ?_) (fun h => .inl ⟨h0, h1, h2, h3, h4, h5, h6, h7, h8, h⟩)
 refine .inr ?_
 exact ⟨h0, h1, h2, h3, h4, h5, h6, h7, h8, h9⟩
set_option maxHeartbeats 4000000 in
set_option maxRecDepth 100000 in
theorem gvsame_d (R : At) (va vb : Value) (xs ys : List Mx) (hx : Reads elemMx R va xs) (hy : Reads elemMx R vb ys) (hxb : ∀ x ∈ xs, Reads elemV R x.sv x.m.b.v ∧ x.m.b.v.length ≤ 4398046510976) (hyb : ∀ y ∈ ys, Reads elemV R y.sv y.m.b.v ∧ y.m.b.v.length ≤ 4398046510976) (hxc : ∀ x ∈ xs, x.cn = 0) (hxl : xs.length ≤ 1000000) : Does Tryz.prog 18 #[va, vb] [R] (.int .i64 (sameMx xs ys)) [R] := by
 intro w H hp
 have HM0 := Lib.hid (mem_refl hp)
 clear hp
 obtain ⟨pa, ca, rfl⟩ := row_form (Mem.src HM0.out 0 rfl hx)
 obtain ⟨pb, cb, rfl⟩ := row_form (Mem.src HM0.out 0 rfl hy)
 replace hxb := Lib.hid hxb
 replace hyb := Lib.hid hyb
 replace hxc := Lib.hid hxc
 go_enter Tryz.func18, Tryz.ntmps18
 simp only [List.append_eq, List.cons_append, List.nil_append]
 refine wp_seq (wQ ?_)
 refine wp_seq (wp_seq ?_)
 by_cases hl : xs.length = ys.length
 ·have hle := Lib.hid hl
  have g1 : ((xs.length : Int) != (ys.length : Int)) = false := by rw [hl]; exact bne_self_eq_false _
  have g1' : (xs.length != ys.length) = false := by rw [hl]; exact bne_self_eq_false _
  clear hl
  refine wQ ?_
  refine wp_cond_false rfl (wp_skip (then_normal (wp_seq (wp_seq (wQ ?_)))))
  refine wp_block ?_
  refine wp_loop_F [4, 5, 6, 7, 15, 16, 17, 18, 19, 20, 21, 22, 23, 24, 25, 26, 27, 28, 29, 30, 31, 32, 33, 34, 35, 36, 37, 38, 39, 40, 41, 42, 43, 44, 45, 46, 47, 48, 49, 50, 51, 52, 53, 54, 55, 56, 57, 58, 59, 60, 61, 62, 63, 64, 65, 66, 67, 68, 69, 70, 71, 72, 73, 74, 75, 76, 77, 78, 79, 80, 81, 82, 83, 84, 85, 86, 87, 88, 89, 90, 91, 92, 93, 94, 95] (fun n vs W' => ∃ i : Nat, n = xs.length - i ∧ vs 15 = .int .i64 (i : Int) ∧ i ≤ xs.length ∧ SameTo xs ys i ∧ Mem [R] H w W') (n0 := xs.length) ?_ ?_
  ·exact ⟨0, rfl, rfl, Nat.zero_le _, SameTo.zero _ _, (Mem.only (M := [_]) HM0.out [0] rfl)⟩
  rintro n vs W' ⟨i, rfl, e15, hi, hS', hm⟩
  simp only [putAll, List.map_cons, List.map_nil, Act.put, List.setIfInBounds_toArray, List.set_cons_succ, List.set_cons_zero]
  rw [e15]
  clear e15
  have hS := Lib.hid hS'
  clear hS'
  have HM1 := Lib.hid hm
  clear hm
  refine wp_seq (wQ ?_)
  refine wp_seq ?_
  refine wp_cond_split rfl (fun h2 => ?_) (fun h2 => ?_)
  ·have hi1 : i + 1 ≤ xs.length := by have : (i : Int) < ((xs.length : Nat) : Int) := (by simpa using h2); omega
   clear h2
   obtain ⟨x, hxi'⟩ : ∃ y, xs[i]? = some y := ⟨_, List.getElem?_eq_getElem (hi1)⟩
   have hxi := Lib.hid hxi'
   clear hxi'
   obtain ⟨y, hyi'⟩ : ∃ y, ys[i]? = some y := ⟨_, List.getElem?_eq_getElem (by have := hle.out; omega)⟩
   have hyi := Lib.hid hyi'
   clear hyi'
   have hbx := Lib.hid (hxb.out x (List.mem_of_getElem? hxi.out))
   have hby := Lib.hid (hyb.out y (List.mem_of_getElem? hyi.out))
   refine wp_skip (then_normal (wp_seq (wp_block (wp_seq (wN [(0, 1), (1, 1), (2, 1), (3, 3), (4, 1), (5, 3)] (wT [0] ?_))))))
   refine wI elemMx 1 (HM1.out.row 0 rfl hx.row) (hxi.out) fun eb3 eo4 hc5 => ?_
   refine wL 2 (msC (x.m) (.slice x.vp x.vn x.vc) (.slice x.rp x.rn x.rc) (.slice x.cp x.cn x.cc)) hc5 Tryz.underlying52 ?_
   refine wpS_alloc (i := 3) (dd := 6) (z := msV noMs (.slice none 0 0) (.slice none 0 0) (.slice none 0 0)) (cs := (msC (noMs) (.slice none 0 0) (.slice none 0 0) (.slice none 0 0)).toArray) rfl (by rfl) rfl (by kernel_rfl) rfl HM1.out covS_nil rfl ?_
   rintro b8 W7 hm6 -
   have HM9 := Lib.hid hm6
   clear hm6
   simp only [Act.put, List.setIfInBounds_toArray, List.set_cons_succ, List.set_cons_zero]
   refine wT [4] ?_
   refine wXkh (hone := (msC_one _ _ _ _ _ _ _ _ _)) 5 [_] (msC (x.m) (.slice x.vp x.vn x.vc) (.slice x.rp x.rn x.rc) (.slice x.cp x.cn x.cc)) HM9 0 fun W11 HM12 => ?_
   refine wZ (wp_seq (wN [(0, 1), (1, 1), (2, 1), (3, 1), (4, 3), (5, 3)] (wT [0, 1] ?_)))
   refine wI elemMx 2 (HM12.out.row 1 rfl hy.row) (hyi.out) fun eb13 eo14 hc15 => ?_
   refine wL 3 (msC (y.m) (.slice y.vp y.vn y.vc) (.slice y.rp y.rn y.rc) (.slice y.cp y.cn y.cc)) hc15 Tryz.underlying52 ?_
   refine wpS_alloc (i := 4) (dd := 7) (z := msV noMs (.slice none 0 0) (.slice none 0 0) (.slice none 0 0)) (cs := (msC (noMs) (.slice none 0 0) (.slice none 0 0) (.slice none 0 0)).toArray) rfl (by rfl) rfl (by kernel_rfl) rfl HM12.out covS_nil rfl ?_
   rintro b18 W17 hm16 -
   have HM19 := Lib.hid hm16
   clear hm16
   simp only [Act.put, List.setIfInBounds_toArray, List.set_cons_succ, List.set_cons_zero]
   refine wXkh (hone := (msC_one _ _ _ _ _ _ _ _ _)) 5 [_, _] (msC (y.m) (.slice y.vp y.vn y.vc) (.slice y.rp y.rn y.rc) (.slice y.cp y.cn y.cc)) HM19 0 fun W21 HM22 => ?_
   refine wZ (wp_seq ?_)
   rcases ms_ways x.m y.m with h0 | ⟨h0, h1⟩ | ⟨h0, h1, h2⟩ | ⟨h0, h1, h2, h3⟩ | ⟨h0, h1, h2, h3, h4⟩ | ⟨h0, h1, h2, h3, h4, h5⟩ | ⟨h0, h1, h2, h3, h4, h5, h6⟩ | ⟨h0, h1, h2, h3, h4, h5, h6, h7⟩ | ⟨h0, h1, h2, h3, h4, h5, h6, h7, h8⟩ | ⟨h0, h1, h2, h3, h4, h5, h6, h7, h8, h9⟩ | ⟨h0, h1, h2, h3, h4, h5, h6, h7, h8, h9⟩
   ·have g0 : (x.m.kind != y.m.kind) = true := bne_iff_ne.2 h0
    have hsm : Hid (sameM x.m y.m = false) := Lib.hid (by unfold sameM; rw [decide_eq_false fun h => h0 h.1, Bool.false_and])
    clear h0
    refine wN [(0, 1), (1, 1), (2, 1), (3, 1), (4, 1), (5, 1), (6, 1), (7, 1), (8, 1), (9, 1), (10, 1), (11, 1), (12, 1), (13, 1), (14, 1), (15, 1), (16, 1), (17, 1), (18, 1), (19, 1), (20, 1), (21, 1), (22, 1), (23, 1), (24, 1), (25, 1), (26, 1), (27, 1), (28, 1), (29, 1), (30, 1), (31, 1), (32, 1), (33, 1), (34, 1), (35, 1), (36, 1), (37, 1), (38, 1), (39, 1), (40, 1), (41, 1), (42, 1), (43, 1), (44, 1), (45, 1), (46, 1), (47, 1), (48, 1), (49, 1), (50, 1), (51, 1), (52, 3), (53, 1), (54, 1), (55, 1), (56, 1), (57, 1), (58, 1), (59, 1), (60, 1), (61, 1), (62, 1), (63, 1), (64, 1), (65, 1), (66, 1), (67, 1), (68, 1), (69, 1), (70, 1)] (wT [0] ?_)
    refine wM 1 (.int .i64 x.m.kind) (HM22.out.part1 1 rfl msC_kind) Tryz.underlying3 ?_
    refine wT [2] ?_
    refine wM 3 (.int .i64 y.m.kind) (HM22.out.part1 0 rfl msC_kind) Tryz.underlying3 ?_
    refine wT [4, 5, 6] ?_
    refine wK 7 ?_
    refine wT [8] ?_
    refine wK 9 ?_
    refine wT [10, 11, 12, 13] ?_
    refine wK 14 ?_
    refine wT [15] ?_
    refine wK 16 ?_
    refine wT [17, 18, 19, 20] ?_
    refine wK 21 ?_
    refine wT [22] ?_
    refine wK 23 ?_
    refine wT [24, 25, 26, 27] ?_
    refine wK 28 ?_
    refine wT [29] ?_
    refine wK 30 ?_
    refine wT [31, 32, 33, 34] ?_
    refine wK 35 ?_
    refine wT [36] ?_
    refine wK 37 ?_
    refine wT [38, 39, 40, 41] ?_
    refine wK 42 ?_
    refine wT [43] ?_
    refine wK 44 ?_
    refine wK 45 ?_
    refine wT [46, 47, 48] ?_
    refine wK 49 ?_
    refine wT [50] ?_
    refine wK 51 ?_
    refine wK 52 ?_
    refine wT [53, 54, 55, 56] ?_
    refine wK 57 ?_
    refine wT [58, 59, 60, 61] ?_
    refine wK 62 ?_
    refine wT [63, 64, 65, 66] ?_
    refine wK 67 ?_
    refine wT [68, 69, 70] ?_
    refine wZ (wp_cond_true rfl (wp_seq (wQ ?_)))
    refine wp_ret ?_
    refine block_ret (then_ret (then_ret (block_ret (then_ret ?_))))
    refine bodyPost_ret (results_tmp rfl _ _ _) rfl ?_
    rw [same_at hxi.out hyi.out hsm.out]
    exact does_ret (Mem.only (M := [_]) HM22.out [2] rfl) rfl rfl
   ·have g0 : (x.m.kind != y.m.kind) = false := by rw [h0]; exact bne_self_eq_false _
    have g1 : (x.m.frm != y.m.frm) = true := bne_iff_ne.2 h1
    have hsm : Hid (sameM x.m y.m = false) := Lib.hid (by unfold sameM; rw [decide_eq_false fun h => h1 h.2.1, Bool.false_and])
    clear h0 h1
    refine wN [(0, 1), (1, 1), (2, 1), (3, 1), (4, 1), (5, 1), (6, 1), (7, 1), (8, 1), (9, 1), (10, 1), (11, 1), (12, 1), (13, 1), (14, 1), (15, 1), (16, 1), (17, 1), (18, 1), (19, 1), (20, 1), (21, 1), (22, 1), (23, 1), (24, 1), (25, 1), (26, 1), (27, 1), (28, 1), (29, 1), (30, 1), (31, 1), (32, 1), (33, 1), (34, 1), (35, 1), (36, 1), (37, 1), (38, 1), (39, 1), (40, 1), (41, 1), (42, 1), (43, 1), (44, 1), (45, 1), (46, 1), (47, 1), (48, 1), (49, 1), (50, 1), (51, 1), (52, 3), (53, 1), (54, 1), (55, 1), (56, 1), (57, 1), (58, 1), (59, 1), (60, 1), (61, 1), (62, 1), (63, 1), (64, 1), (65, 1), (66, 1), (67, 1), (68, 1), (69, 1), (70, 1)] (wT [0] ?_)
    refine wM 1 (.int .i64 x.m.kind) (HM22.out.part1 1 rfl msC_kind) Tryz.underlying3 ?_
    refine wT [2] ?_
    refine wM 3 (.int .i64 y.m.kind) (HM22.out.part1 0 rfl msC_kind) Tryz.underlying3 ?_
    refine wT [4, 5, 6] ?_
    refine wM 7 (.int .i64 x.m.frm) (HM22.out.part1 1 rfl msC_frm) Tryz.underlying3 ?_
    refine wT [8] ?_
    refine wM 9 (.int .i64 y.m.frm) (HM22.out.part1 0 rfl msC_frm) Tryz.underlying3 ?_
    refine wT [10, 11, 12, 13] ?_
    refine wK 14 ?_
    refine wT [15] ?_
    refine wK 16 ?_
    refine wT [17, 18, 19, 20] ?_
    refine wK 21 ?_
    refine wT [22] ?_
    refine wK 23 ?_
    refine wT [24, 25, 26, 27] ?_
    refine wK 28 ?_
    refine wT [29] ?_
    refine wK 30 ?_
    refine wT [31, 32, 33, 34] ?_
    refine wK 35 ?_
    refine wT [36] ?_
    refine wK 37 ?_
    refine wT [38, 39, 40, 41] ?_
    refine wK 42 ?_
    refine wT [43] ?_
    refine wK 44 ?_
    refine wK 45 ?_
    refine wT [46, 47, 48] ?_
    refine wK 49 ?_
    refine wT [50] ?_
    refine wK 51 ?_
    refine wK 52 ?_
    refine wT [53, 54, 55, 56] ?_
    refine wK 57 ?_
    refine wT [58, 59, 60, 61] ?_
    refine wK 62 ?_
    refine wT [63, 64, 65, 66] ?_
    refine wK 67 ?_
    refine wT [68, 69, 70] ?_
    refine wZ (wp_cond_true rfl (wp_seq (wQ ?_)))
    refine wp_ret ?_
    refine block_ret (then_ret (then_ret (block_ret (then_ret ?_))))
    refine bodyPost_ret (results_tmp rfl _ _ _) rfl ?_
    rw [same_at hxi.out hyi.out hsm.out]
    exact does_ret (Mem.only (M := [_]) HM22.out [2] rfl) rfl rfl
   ·have g0 : (x.m.kind != y.m.kind) = false := by rw [h0]; exact bne_self_eq_false _
    have g1 : (x.m.frm != y.m.frm) = false := by rw [h1]; exact bne_self_eq_false _
    have g2 : (x.m.dst != y.m.dst) = true := bne_iff_ne.2 h2
    have hsm : Hid (sameM x.m y.m = false) := Lib.hid (by unfold sameM; rw [decide_eq_false fun h => h2 h.2.2.1, Bool.false_and])
    clear h0 h1 h2
    refine wN [(0, 1), (1, 1), (2, 1), (3, 1), (4, 1), (5, 1), (6, 1), (7, 1), (8, 1), (9, 1), (10, 1), (11, 1), (12, 1), (13, 1), (14, 1), (15, 1), (16, 1), (17, 1), (18, 1), (19, 1), (20, 1), (21, 1), (22, 1), (23, 1), (24, 1), (25, 1), (26, 1), (27, 1), (28, 1), (29, 1), (30, 1), (31, 1), (32, 1), (33, 1), (34, 1), (35, 1), (36, 1), (37, 1), (38, 1), (39, 1), (40, 1), (41, 1), (42, 1), (43, 1), (44, 1), (45, 1), (46, 1), (47, 1), (48, 1), (49, 1), (50, 1), (51, 1), (52, 3), (53, 1), (54, 1), (55, 1), (56, 1), (57, 1), (58, 1), (59, 1), (60, 1), (61, 1), (62, 1), (63, 1), (64, 1), (65, 1), (66, 1), (67, 1), (68, 1), (69, 1), (70, 1)] (wT [0] ?_)
    refine wM 1 (.int .i64 x.m.kind) (HM22.out.part1 1 rfl msC_kind) Tryz.underlying3 ?_
    refine wT [2] ?_
    refine wM 3 (.int .i64 y.m.kind) (HM22.out.part1 0 rfl msC_kind) Tryz.underlying3 ?_
    refine wT [4, 5, 6] ?_
    refine wM 7 (.int .i64 x.m.frm) (HM22.out.part1 1 rfl msC_frm) Tryz.underlying3 ?_
    refine wT [8] ?_
    refine wM 9 (.int .i64 y.m.frm) (HM22.out.part1 0 rfl msC_frm) Tryz.underlying3 ?_
    refine wT [10, 11, 12, 13] ?_
    refine wM 14 (.int .i64 x.m.dst) (HM22.out.part1 1 rfl msC_dst) Tryz.underlying3 ?_
    refine wT [15] ?_
    refine wM 16 (.int .i64 y.m.dst) (HM22.out.part1 0 rfl msC_dst) Tryz.underlying3 ?_
    refine wT [17, 18, 19, 20] ?_
    refine wK 21 ?_
    refine wT [22] ?_
    refine wK 23 ?_
    refine wT [24, 25, 26, 27] ?_
    refine wK 28 ?_
    refine wT [29] ?_
    refine wK 30 ?_
    refine wT [31, 32, 33, 34] ?_
    refine wK 35 ?_
    refine wT [36] ?_
    refine wK 37 ?_
    refine wT [38, 39, 40, 41] ?_
    refine wK 42 ?_
    refine wT [43] ?_
    refine wK 44 ?_
    refine wK 45 ?_
    refine wT [46, 47, 48] ?_
    refine wK 49 ?_
    refine wT [50] ?_
    refine wK 51 ?_
    refine wK 52 ?_
    refine wT [53, 54, 55, 56] ?_
    refine wK 57 ?_
    refine wT [58, 59, 60, 61] ?_
    refine wK 62 ?_
    refine wT [63, 64, 65, 66] ?_
    refine wK 67 ?_
    refine wT [68, 69, 70] ?_
    refine wZ (wp_cond_true rfl (wp_seq (wQ ?_)))
    refine wp_ret ?_
    refine block_ret (then_ret (then_ret (block_ret (then_ret ?_))))
    refine bodyPost_ret (results_tmp rfl _ _ _) rfl ?_
    rw [same_at hxi.out hyi.out hsm.out]
    exact does_ret (Mem.only (M := [_]) HM22.out [2] rfl) rfl rfl
   ·have g0 : (x.m.kind != y.m.kind) = false := by rw [h0]; exact bne_self_eq_false _
    have g1 : (x.m.frm != y.m.frm) = false := by rw [h1]; exact bne_self_eq_false _
    have g2 : (x.m.dst != y.m.dst) = false := by rw [h2]; exact bne_self_eq_false _
    have g3 : (x.m.seq != y.m.seq) = true := bne_iff_ne.2 h3
    have hsm : Hid (sameM x.m y.m = false) := Lib.hid (by unfold sameM; rw [decide_eq_false fun h => h3 h.2.2.2.1, Bool.false_and])
    clear h0 h1 h2 h3
    refine wN [(0, 1), (1, 1), (2, 1), (3, 1), (4, 1), (5, 1), (6, 1), (7, 1), (8, 1), (9, 1), (10, 1), (11, 1), (12, 1), (13, 1), (14, 1), (15, 1), (16, 1), (17, 1), (18, 1), (19, 1), (20, 1), (21, 1), (22, 1), (23, 1), (24, 1), (25, 1), (26, 1), (27, 1), (28, 1), (29, 1), (30, 1), (31, 1), (32, 1), (33, 1), (34, 1), (35, 1), (36, 1), (37, 1), (38, 1), (39, 1), (40, 1), (41, 1), (42, 1), (43, 1), (44, 1), (45, 1), (46, 1), (47, 1), (48, 1), (49, 1), (50, 1), (51, 1), (52, 3), (53, 1), (54, 1), (55, 1), (56, 1), (57, 1), (58, 1), (59, 1), (60, 1), (61, 1), (62, 1), (63, 1), (64, 1), (65, 1), (66, 1), (67, 1), (68, 1), (69, 1), (70, 1)] (wT [0] ?_)
    refine wM 1 (.int .i64 x.m.kind) (HM22.out.part1 1 rfl msC_kind) Tryz.underlying3 ?_
    refine wT [2] ?_
    refine wM 3 (.int .i64 y.m.kind) (HM22.out.part1 0 rfl msC_kind) Tryz.underlying3 ?_
    refine wT [4, 5, 6] ?_
    refine wM 7 (.int .i64 x.m.frm) (HM22.out.part1 1 rfl msC_frm) Tryz.underlying3 ?_
    refine wT [8] ?_
    refine wM 9 (.int .i64 y.m.frm) (HM22.out.part1 0 rfl msC_frm) Tryz.underlying3 ?_
    refine wT [10, 11, 12, 13] ?_
    refine wM 14 (.int .i64 x.m.dst) (HM22.out.part1 1 rfl msC_dst) Tryz.underlying3 ?_
    refine wT [15] ?_
    refine wM 16 (.int .i64 y.m.dst) (HM22.out.part1 0 rfl msC_dst) Tryz.underlying3 ?_
    refine wT [17, 18, 19, 20] ?_
    refine wM 21 (.int .i64 x.m.seq) (HM22.out.part1 1 rfl msC_seq) Tryz.underlying3 ?_
    refine wT [22] ?_
    refine wM 23 (.int .i64 y.m.seq) (HM22.out.part1 0 rfl msC_seq) Tryz.underlying3 ?_
    refine wT [24, 25, 26, 27] ?_
    refine wK 28 ?_
    refine wT [29] ?_
    refine wK 30 ?_
    refine wT [31, 32, 33, 34] ?_
    refine wK 35 ?_
    refine wT [36] ?_
    refine wK 37 ?_
    refine wT [38, 39, 40, 41] ?_
    refine wK 42 ?_
    refine wT [43] ?_
    refine wK 44 ?_
    refine wK 45 ?_
    refine wT [46, 47, 48] ?_
    refine wK 49 ?_
    refine wT [50] ?_
    refine wK 51 ?_
    refine wK 52 ?_
    refine wT [53, 54, 55, 56] ?_
    refine wK 57 ?_
    refine wT [58, 59, 60, 61] ?_
    refine wK 62 ?_
    refine wT [63, 64, 65, 66] ?_
    refine wK 67 ?_
    refine wT [68, 69, 70] ?_
    refine wZ (wp_cond_true rfl (wp_seq (wQ ?_)))
    refine wp_ret ?_
    refine block_ret (then_ret (then_ret (block_ret (then_ret ?_))))
    refine bodyPost_ret (results_tmp rfl _ _ _) rfl ?_
    rw [same_at hxi.out hyi.out hsm.out]
    exact does_ret (Mem.only (M := [_]) HM22.out [2] rfl) rfl rfl
   ·have g0 : (x.m.kind != y.m.kind) = false := by rw [h0]; exact bne_self_eq_false _
    have g1 : (x.m.frm != y.m.frm) = false := by rw [h1]; exact bne_self_eq_false _
    have g2 : (x.m.dst != y.m.dst) = false := by rw [h2]; exact bne_self_eq_false _
    have g3 : (x.m.seq != y.m.seq) = false := by rw [h3]; exact bne_self_eq_false _
    have g4 : (x.m.part != y.m.part) = true := bne_iff_ne.2 h4
    have hsm : Hid (sameM x.m y.m = false) := Lib.hid (by unfold sameM; rw [decide_eq_false fun h => h4 h.2.2.2.2.1, Bool.false_and])
    clear h0 h1 h2 h3 h4
    refine wN [(0, 1), (1, 1), (2, 1), (3, 1), (4, 1), (5, 1), (6, 1), (7, 1), (8, 1), (9, 1), (10, 1), (11, 1), (12, 1), (13, 1), (14, 1), (15, 1), (16, 1), (17, 1), (18, 1), (19, 1), (20, 1), (21, 1), (22, 1), (23, 1), (24, 1), (25, 1), (26, 1), (27, 1), (28, 1), (29, 1), (30, 1), (31, 1), (32, 1), (33, 1), (34, 1), (35, 1), (36, 1), (37, 1), (38, 1), (39, 1), (40, 1), (41, 1), (42, 1), (43, 1), (44, 1), (45, 1), (46, 1), (47, 1), (48, 1), (49, 1), (50, 1), (51, 1), (52, 3), (53, 1), (54, 1), (55, 1), (56, 1), (57, 1), (58, 1), (59, 1), (60, 1), (61, 1), (62, 1), (63, 1), (64, 1), (65, 1), (66, 1), (67, 1), (68, 1), (69, 1), (70, 1)] (wT [0] ?_)
    refine wM 1 (.int .i64 x.m.kind) (HM22.out.part1 1 rfl msC_kind) Tryz.underlying3 ?_
    refine wT [2] ?_
    refine wM 3 (.int .i64 y.m.kind) (HM22.out.part1 0 rfl msC_kind) Tryz.underlying3 ?_
    refine wT [4, 5, 6] ?_
    refine wM 7 (.int .i64 x.m.frm) (HM22.out.part1 1 rfl msC_frm) Tryz.underlying3 ?_
    refine wT [8] ?_
    refine wM 9 (.int .i64 y.m.frm) (HM22.out.part1 0 rfl msC_frm) Tryz.underlying3 ?_
    refine wT [10, 11, 12, 13] ?_
    refine wM 14 (.int .i64 x.m.dst) (HM22.out.part1 1 rfl msC_dst) Tryz.underlying3 ?_
    refine wT [15] ?_
    refine wM 16 (.int .i64 y.m.dst) (HM22.out.part1 0 rfl msC_dst) Tryz.underlying3 ?_
    refine wT [17, 18, 19, 20] ?_
    refine wM 21 (.int .i64 x.m.seq) (HM22.out.part1 1 rfl msC_seq) Tryz.underlying3 ?_
    refine wT [22] ?_
    refine wM 23 (.int .i64 y.m.seq) (HM22.out.part1 0 rfl msC_seq) Tryz.underlying3 ?_
    refine wT [24, 25, 26, 27] ?_
    refine wM 28 (.int .i64 x.m.part) (HM22.out.part1 1 rfl msC_part) Tryz.underlying3 ?_
    refine wT [29] ?_
    refine wM 30 (.int .i64 y.m.part) (HM22.out.part1 0 rfl msC_part) Tryz.underlying3 ?_
    refine wT [31, 32, 33, 34] ?_
    refine wK 35 ?_
    refine wT [36] ?_
    refine wK 37 ?_
    refine wT [38, 39, 40, 41] ?_
    refine wK 42 ?_
    refine wT [43] ?_
    refine wK 44 ?_
    refine wK 45 ?_
    refine wT [46, 47, 48] ?_
    refine wK 49 ?_
    refine wT [50] ?_
    refine wK 51 ?_
    refine wK 52 ?_
    refine wT [53, 54, 55, 56] ?_
    refine wK 57 ?_
    refine wT [58, 59, 60, 61] ?_
    refine wK 62 ?_
    refine wT [63, 64, 65, 66] ?_
    refine wK 67 ?_
    refine wT [68, 69, 70] ?_
    refine wZ (wp_cond_true rfl (wp_seq (wQ ?_)))
    refine wp_ret ?_
    refine block_ret (then_ret (then_ret (block_ret (then_ret ?_))))
    refine bodyPost_ret (results_tmp rfl _ _ _) rfl ?_
    rw [same_at hxi.out hyi.out hsm.out]
    exact does_ret (Mem.only (M := [_]) HM22.out [2] rfl) rfl rfl
   ·have g0 : (x.m.kind != y.m.kind) = false := by rw [h0]; exact bne_self_eq_false _
    have g1 : (x.m.frm != y.m.frm) = false := by rw [h1]; exact bne_self_eq_false _
    have g2 : (x.m.dst != y.m.dst) = false := by rw [h2]; exact bne_self_eq_false _
    have g3 : (x.m.seq != y.m.seq) = false := by rw [h3]; exact bne_self_eq_false _
    have g4 : (x.m.part != y.m.part) = false := by rw [h4]; exact bne_self_eq_false _
    have g5 : (x.m.epoch != y.m.epoch) = true := bne_iff_ne.2 h5
    have hsm : Hid (sameM x.m y.m = false) := Lib.hid (by unfold sameM; rw [decide_eq_false fun h => h5 h.2.2.2.2.2.1, Bool.false_and])
    clear h0 h1 h2 h3 h4 h5
    refine wN [(0, 1), (1, 1), (2, 1), (3, 1), (4, 1), (5, 1), (6, 1), (7, 1), (8, 1), (9, 1), (10, 1), (11, 1), (12, 1), (13, 1), (14, 1), (15, 1), (16, 1), (17, 1), (18, 1), (19, 1), (20, 1), (21, 1), (22, 1), (23, 1), (24, 1), (25, 1), (26, 1), (27, 1), (28, 1), (29, 1), (30, 1), (31, 1), (32, 1), (33, 1), (34, 1), (35, 1), (36, 1), (37, 1), (38, 1), (39, 1), (40, 1), (41, 1), (42, 1), (43, 1), (44, 1), (45, 1), (46, 1), (47, 1), (48, 1), (49, 1), (50, 1), (51, 1), (52, 3), (53, 1), (54, 1), (55, 1), (56, 1), (57, 1), (58, 1), (59, 1), (60, 1), (61, 1), (62, 1), (63, 1), (64, 1), (65, 1), (66, 1), (67, 1), (68, 1), (69, 1), (70, 1)] (wT [0] ?_)
    refine wM 1 (.int .i64 x.m.kind) (HM22.out.part1 1 rfl msC_kind) Tryz.underlying3 ?_
    refine wT [2] ?_
    refine wM 3 (.int .i64 y.m.kind) (HM22.out.part1 0 rfl msC_kind) Tryz.underlying3 ?_
    refine wT [4, 5, 6] ?_
    refine wM 7 (.int .i64 x.m.frm) (HM22.out.part1 1 rfl msC_frm) Tryz.underlying3 ?_
    refine wT [8] ?_
    refine wM 9 (.int .i64 y.m.frm) (HM22.out.part1 0 rfl msC_frm) Tryz.underlying3 ?_
    refine wT [10, 11, 12, 13] ?_
    refine wM 14 (.int .i64 x.m.dst) (HM22.out.part1 1 rfl msC_dst) Tryz.underlying3 ?_
    refine wT [15] ?_
    refine wM 16 (.int .i64 y.m.dst) (HM22.out.part1 0 rfl msC_dst) Tryz.underlying3 ?_
    refine wT [17, 18, 19, 20] ?_
    refine wM 21 (.int .i64 x.m.seq) (HM22.out.part1 1 rfl msC_seq) Tryz.underlying3 ?_
    refine wT [22] ?_
    refine wM 23 (.int .i64 y.m.seq) (HM22.out.part1 0 rfl msC_seq) Tryz.underlying3 ?_
    refine wT [24, 25, 26, 27] ?_
    refine wM 28 (.int .i64 x.m.part) (HM22.out.part1 1 rfl msC_part) Tryz.underlying3 ?_
    refine wT [29] ?_
    refine wM 30 (.int .i64 y.m.part) (HM22.out.part1 0 rfl msC_part) Tryz.underlying3 ?_
    refine wT [31, 32, 33, 34] ?_
    refine wM 35 (.int .i64 x.m.epoch) (HM22.out.part1 1 rfl msC_epoch) Tryz.underlying3 ?_
    refine wT [36] ?_
    refine wM 37 (.int .i64 y.m.epoch) (HM22.out.part1 0 rfl msC_epoch) Tryz.underlying3 ?_
    refine wT [38, 39, 40, 41] ?_
    refine wK 42 ?_
    refine wT [43] ?_
    refine wK 44 ?_
    refine wK 45 ?_
    refine wT [46, 47, 48] ?_
    refine wK 49 ?_
    refine wT [50] ?_
    refine wK 51 ?_
    refine wK 52 ?_
    refine wT [53, 54, 55, 56] ?_
    refine wK 57 ?_
    refine wT [58, 59, 60, 61] ?_
    refine wK 62 ?_
    refine wT [63, 64, 65, 66] ?_
    refine wK 67 ?_
    refine wT [68, 69, 70] ?_
    refine wZ (wp_cond_true rfl (wp_seq (wQ ?_)))
    refine wp_ret ?_
    refine block_ret (then_ret (then_ret (block_ret (then_ret ?_))))
    refine bodyPost_ret (results_tmp rfl _ _ _) rfl ?_
    rw [same_at hxi.out hyi.out hsm.out]
    exact does_ret (Mem.only (M := [_]) HM22.out [2] rfl) rfl rfl
   ·have g0 : (x.m.kind != y.m.kind) = false := by rw [h0]; exact bne_self_eq_false _
    have g1 : (x.m.frm != y.m.frm) = false := by rw [h1]; exact bne_self_eq_false _
    have g2 : (x.m.dst != y.m.dst) = false := by rw [h2]; exact bne_self_eq_false _
    have g3 : (x.m.seq != y.m.seq) = false := by rw [h3]; exact bne_self_eq_false _
    have g4 : (x.m.part != y.m.part) = false := by rw [h4]; exact bne_self_eq_false _
    have g5 : (x.m.epoch != y.m.epoch) = false := by rw [h5]; exact bne_self_eq_false _
    have g6 : Hid ((!decide (x.m.key = y.m.key)) = true) := Lib.hid (by rw [decide_eq_false h6]; rfl)
    have hsm : Hid (sameM x.m y.m = false) := Lib.hid (by unfold sameM; rw [decide_eq_false fun h => h6 h.2.2.2.2.2.2.1, Bool.false_and])
    clear h0 h1 h2 h3 h4 h5 h6
    refine wN [(0, 1), (1, 1), (2, 1), (3, 1), (4, 1), (5, 1), (6, 1), (7, 1), (8, 1), (9, 1), (10, 1), (11, 1), (12, 1), (13, 1), (14, 1), (15, 1), (16, 1), (17, 1), (18, 1), (19, 1), (20, 1), (21, 1), (22, 1), (23, 1), (24, 1), (25, 1), (26, 1), (27, 1), (28, 1), (29, 1), (30, 1), (31, 1), (32, 1), (33, 1), (34, 1), (35, 1), (36, 1), (37, 1), (38, 1), (39, 1), (40, 1), (41, 1), (42, 1), (43, 1), (44, 1), (45, 1), (46, 1), (47, 1), (48, 1), (49, 1), (50, 1), (51, 1), (52, 3), (53, 1), (54, 1), (55, 1), (56, 1), (57, 1), (58, 1), (59, 1), (60, 1), (61, 1), (62, 1), (63, 1), (64, 1), (65, 1), (66, 1), (67, 1), (68, 1), (69, 1), (70, 1)] (wT [0] ?_)
    refine wM 1 (.int .i64 x.m.kind) (HM22.out.part1 1 rfl msC_kind) Tryz.underlying3 ?_
    refine wT [2] ?_
    refine wM 3 (.int .i64 y.m.kind) (HM22.out.part1 0 rfl msC_kind) Tryz.underlying3 ?_
    refine wT [4, 5, 6] ?_
    refine wM 7 (.int .i64 x.m.frm) (HM22.out.part1 1 rfl msC_frm) Tryz.underlying3 ?_
    refine wT [8] ?_
    refine wM 9 (.int .i64 y.m.frm) (HM22.out.part1 0 rfl msC_frm) Tryz.underlying3 ?_
    refine wT [10, 11, 12, 13] ?_
    refine wM 14 (.int .i64 x.m.dst) (HM22.out.part1 1 rfl msC_dst) Tryz.underlying3 ?_
    refine wT [15] ?_
    refine wM 16 (.int .i64 y.m.dst) (HM22.out.part1 0 rfl msC_dst) Tryz.underlying3 ?_
    refine wT [17, 18, 19, 20] ?_
    refine wM 21 (.int .i64 x.m.seq) (HM22.out.part1 1 rfl msC_seq) Tryz.underlying3 ?_
    refine wT [22] ?_
    refine wM 23 (.int .i64 y.m.seq) (HM22.out.part1 0 rfl msC_seq) Tryz.underlying3 ?_
    refine wT [24, 25, 26, 27] ?_
    refine wM 28 (.int .i64 x.m.part) (HM22.out.part1 1 rfl msC_part) Tryz.underlying3 ?_
    refine wT [29] ?_
    refine wM 30 (.int .i64 y.m.part) (HM22.out.part1 0 rfl msC_part) Tryz.underlying3 ?_
    refine wT [31, 32, 33, 34] ?_
    refine wM 35 (.int .i64 x.m.epoch) (HM22.out.part1 1 rfl msC_epoch) Tryz.underlying3 ?_
    refine wT [36] ?_
    refine wM 37 (.int .i64 y.m.epoch) (HM22.out.part1 0 rfl msC_epoch) Tryz.underlying3 ?_
    refine wT [38, 39, 40, 41] ?_
    refine wM 42 (.string x.m.key) (HM22.out.part1 1 rfl msC_key) Tryz.underlying9 ?_
    refine wT [43] ?_
    refine wM 44 (.string y.m.key) (HM22.out.part1 0 rfl msC_key) Tryz.underlying9 ?_
    refine wR 45 (run_neS (s := x.m.key) (t := y.m.key) g6.out rfl rfl rfl) ?_
    refine wT [46, 47, 48] ?_
    refine wK 49 ?_
    refine wT [50] ?_
    refine wK 51 ?_
    refine wK 52 ?_
    refine wT [53, 54, 55, 56] ?_
    refine wK 57 ?_
    refine wT [58, 59, 60, 61] ?_
    refine wK 62 ?_
    refine wT [63, 64, 65, 66] ?_
    refine wK 67 ?_
    refine wT [68, 69, 70] ?_
    refine wZ (wp_cond_true rfl (wp_seq (wQ ?_)))
    refine wp_ret ?_
    refine block_ret (then_ret (then_ret (block_ret (then_ret ?_))))
    refine bodyPost_ret (results_tmp rfl _ _ _) rfl ?_
    rw [same_at hxi.out hyi.out hsm.out]
    exact does_ret (Mem.only (M := [_]) HM22.out [2] rfl) rfl rfl
   ·have g0 : (x.m.kind != y.m.kind) = false := by rw [h0]; exact bne_self_eq_false _
    have g1 : (x.m.frm != y.m.frm) = false := by rw [h1]; exact bne_self_eq_false _
    have g2 : (x.m.dst != y.m.dst) = false := by rw [h2]; exact bne_self_eq_false _
    have g3 : (x.m.seq != y.m.seq) = false := by rw [h3]; exact bne_self_eq_false _
    have g4 : (x.m.part != y.m.part) = false := by rw [h4]; exact bne_self_eq_false _
    have g5 : (x.m.epoch != y.m.epoch) = false := by rw [h5]; exact bne_self_eq_false _
    have g6 : Hid ((!decide (x.m.key = y.m.key)) = false) := Lib.hid (by rw [decide_eq_true h6]; rfl)
    have g7 : Hid (sameB x.m.b y.m.b = false) := Lib.hid ((Bool.eq_false_iff.2 h7))
    have hsm : Hid (sameM x.m y.m = false) := Lib.hid (by unfold sameM; rw [Bool.eq_false_iff.2 h7, Bool.and_false])
    clear h0 h1 h2 h3 h4 h5 h6 h7
    refine wN [(0, 1), (1, 1), (2, 1), (3, 1), (4, 1), (5, 1), (6, 1), (7, 1), (8, 1), (9, 1), (10, 1), (11, 1), (12, 1), (13, 1), (14, 1), (15, 1), (16, 1), (17, 1), (18, 1), (19, 1), (20, 1), (21, 1), (22, 1), (23, 1), (24, 1), (25, 1), (26, 1), (27, 1), (28, 1), (29, 1), (30, 1), (31, 1), (32, 1), (33, 1), (34, 1), (35, 1), (36, 1), (37, 1), (38, 1), (39, 1), (40, 1), (41, 1), (42, 1), (43, 1), (44, 1), (45, 1), (46, 1), (47, 1), (48, 1), (49, 1), (50, 1), (51, 1), (52, 3), (53, 1), (54, 1), (55, 1), (56, 1), (57, 1), (58, 1), (59, 1), (60, 1), (61, 1), (62, 1), (63, 1), (64, 1), (65, 1), (66, 1), (67, 1), (68, 1), (69, 1), (70, 1)] (wT [0] ?_)
    refine wM 1 (.int .i64 x.m.kind) (HM22.out.part1 1 rfl msC_kind) Tryz.underlying3 ?_
    refine wT [2] ?_
    refine wM 3 (.int .i64 y.m.kind) (HM22.out.part1 0 rfl msC_kind) Tryz.underlying3 ?_
    refine wT [4, 5, 6] ?_
    refine wM 7 (.int .i64 x.m.frm) (HM22.out.part1 1 rfl msC_frm) Tryz.underlying3 ?_
    refine wT [8] ?_
    refine wM 9 (.int .i64 y.m.frm) (HM22.out.part1 0 rfl msC_frm) Tryz.underlying3 ?_
    refine wT [10, 11, 12, 13] ?_
    refine wM 14 (.int .i64 x.m.dst) (HM22.out.part1 1 rfl msC_dst) Tryz.underlying3 ?_
    refine wT [15] ?_
    refine wM 16 (.int .i64 y.m.dst) (HM22.out.part1 0 rfl msC_dst) Tryz.underlying3 ?_
    refine wT [17, 18, 19, 20] ?_
    refine wM 21 (.int .i64 x.m.seq) (HM22.out.part1 1 rfl msC_seq) Tryz.underlying3 ?_
    refine wT [22] ?_
    refine wM 23 (.int .i64 y.m.seq) (HM22.out.part1 0 rfl msC_seq) Tryz.underlying3 ?_
    refine wT [24, 25, 26, 27] ?_
    refine wM 28 (.int .i64 x.m.part) (HM22.out.part1 1 rfl msC_part) Tryz.underlying3 ?_
    refine wT [29] ?_
    refine wM 30 (.int .i64 y.m.part) (HM22.out.part1 0 rfl msC_part) Tryz.underlying3 ?_
    refine wT [31, 32, 33, 34] ?_
    refine wM 35 (.int .i64 x.m.epoch) (HM22.out.part1 1 rfl msC_epoch) Tryz.underlying3 ?_
    refine wT [36] ?_
    refine wM 37 (.int .i64 y.m.epoch) (HM22.out.part1 0 rfl msC_epoch) Tryz.underlying3 ?_
    refine wT [38, 39, 40, 41] ?_
    refine wM 42 (.string x.m.key) (HM22.out.part1 1 rfl msC_key) Tryz.underlying9 ?_
    refine wT [43] ?_
    refine wM 44 (.string y.m.key) (HM22.out.part1 0 rfl msC_key) Tryz.underlying9 ?_
    refine wR 45 (run_neS (s := x.m.key) (t := y.m.key) g6.out rfl rfl rfl) ?_
    refine wT [46, 47, 48] ?_
    refine wL 49 (bgC x.m.b.k (.slice x.vp x.vn x.vc)) (HM22.out.part 1 rfl (msC_bag)) Tryz.underlying41 ?_
    refine wT [50] ?_
    refine wL 51 (bgC y.m.b.k (.slice y.vp y.vn y.vc)) (HM22.out.part 0 rfl (msC_bag)) Tryz.underlying41 ?_
    refine wD2 52 [_, _] [_, _, _] Tryz.call44 (bsame_d R _ x.m.b hbx.out.1 hbx.out.2 _ y.m.b hby.out.1 hby.out.2) HM22 [2] fun W24 hm23 => ?_
    rw [g7.out]
    have HM25 := Lib.hid hm23
    clear hm23
    refine wT [53, 54, 55, 56] ?_
    refine wK 57 ?_
    refine wT [58, 59, 60, 61] ?_
    refine wK 62 ?_
    refine wT [63, 64, 65, 66] ?_
    refine wK 67 ?_
    refine wT [68, 69, 70] ?_
    refine wZ (wp_cond_true rfl (wp_seq (wQ ?_)))
    refine wp_ret ?_
    refine block_ret (then_ret (then_ret (block_ret (then_ret ?_))))
    refine bodyPost_ret (results_tmp rfl _ _ _) rfl ?_
    rw [same_at hxi.out hyi.out hsm.out]
    exact does_ret (Mem.only (M := [_]) HM25.out [0] rfl) rfl rfl
   ·have g0 : (x.m.kind != y.m.kind) = false := by rw [h0]; exact bne_self_eq_false _
    have g1 : (x.m.frm != y.m.frm) = false := by rw [h1]; exact bne_self_eq_false _
    have g2 : (x.m.dst != y.m.dst) = false := by rw [h2]; exact bne_self_eq_false _
    have g3 : (x.m.seq != y.m.seq) = false := by rw [h3]; exact bne_self_eq_false _
    have g4 : (x.m.part != y.m.part) = false := by rw [h4]; exact bne_self_eq_false _
    have g5 : (x.m.epoch != y.m.epoch) = false := by rw [h5]; exact bne_self_eq_false _
    have g6 : Hid ((!decide (x.m.key = y.m.key)) = false) := Lib.hid (by rw [decide_eq_true h6]; rfl)
    have g7 : Hid (sameB x.m.b y.m.b = true) := Lib.hid (h7)
    have g8 : (x.m.re != 0) = true := bne_iff_ne.2 h8
    have hsm : Hid (sameM x.m y.m = false) := Lib.hid (by unfold sameM; rw [decide_eq_false fun h => h8 h.2.2.2.2.2.2.2.1, Bool.false_and])
    clear h0 h1 h2 h3 h4 h5 h6 h7 h8
    refine wN [(0, 1), (1, 1), (2, 1), (3, 1), (4, 1), (5, 1), (6, 1), (7, 1), (8, 1), (9, 1), (10, 1), (11, 1), (12, 1), (13, 1), (14, 1), (15, 1), (16, 1), (17, 1), (18, 1), (19, 1), (20, 1), (21, 1), (22, 1), (23, 1), (24, 1), (25, 1), (26, 1), (27, 1), (28, 1), (29, 1), (30, 1), (31, 1), (32, 1), (33, 1), (34, 1), (35, 1), (36, 1), (37, 1), (38, 1), (39, 1), (40, 1), (41, 1), (42, 1), (43, 1), (44, 1), (45, 1), (46, 1), (47, 1), (48, 1), (49, 1), (50, 1), (51, 1), (52, 3), (53, 1), (54, 1), (55, 1), (56, 1), (57, 1), (58, 1), (59, 1), (60, 1), (61, 1), (62, 1), (63, 1), (64, 1), (65, 1), (66, 1), (67, 1), (68, 1), (69, 1), (70, 1)] (wT [0] ?_)
    refine wM 1 (.int .i64 x.m.kind) (HM22.out.part1 1 rfl msC_kind) Tryz.underlying3 ?_
    refine wT [2] ?_
    refine wM 3 (.int .i64 y.m.kind) (HM22.out.part1 0 rfl msC_kind) Tryz.underlying3 ?_
    refine wT [4, 5, 6] ?_
    refine wM 7 (.int .i64 x.m.frm) (HM22.out.part1 1 rfl msC_frm) Tryz.underlying3 ?_
    refine wT [8] ?_
    refine wM 9 (.int .i64 y.m.frm) (HM22.out.part1 0 rfl msC_frm) Tryz.underlying3 ?_
    refine wT [10, 11, 12, 13] ?_
    refine wM 14 (.int .i64 x.m.dst) (HM22.out.part1 1 rfl msC_dst) Tryz.underlying3 ?_
    refine wT [15] ?_
    refine wM 16 (.int .i64 y.m.dst) (HM22.out.part1 0 rfl msC_dst) Tryz.underlying3 ?_
    refine wT [17, 18, 19, 20] ?_
    refine wM 21 (.int .i64 x.m.seq) (HM22.out.part1 1 rfl msC_seq) Tryz.underlying3 ?_
    refine wT [22] ?_
    refine wM 23 (.int .i64 y.m.seq) (HM22.out.part1 0 rfl msC_seq) Tryz.underlying3 ?_
    refine wT [24, 25, 26, 27] ?_
    refine wM 28 (.int .i64 x.m.part) (HM22.out.part1 1 rfl msC_part) Tryz.underlying3 ?_
    refine wT [29] ?_
    refine wM 30 (.int .i64 y.m.part) (HM22.out.part1 0 rfl msC_part) Tryz.underlying3 ?_
    refine wT [31, 32, 33, 34] ?_
    refine wM 35 (.int .i64 x.m.epoch) (HM22.out.part1 1 rfl msC_epoch) Tryz.underlying3 ?_
    refine wT [36] ?_
    refine wM 37 (.int .i64 y.m.epoch) (HM22.out.part1 0 rfl msC_epoch) Tryz.underlying3 ?_
    refine wT [38, 39, 40, 41] ?_
    refine wM 42 (.string x.m.key) (HM22.out.part1 1 rfl msC_key) Tryz.underlying9 ?_
    refine wT [43] ?_
    refine wM 44 (.string y.m.key) (HM22.out.part1 0 rfl msC_key) Tryz.underlying9 ?_
    refine wR 45 (run_neS (s := x.m.key) (t := y.m.key) g6.out rfl rfl rfl) ?_
    refine wT [46, 47, 48] ?_
    refine wL 49 (bgC x.m.b.k (.slice x.vp x.vn x.vc)) (HM22.out.part 1 rfl (msC_bag)) Tryz.underlying41 ?_
    refine wT [50] ?_
    refine wL 51 (bgC y.m.b.k (.slice y.vp y.vn y.vc)) (HM22.out.part 0 rfl (msC_bag)) Tryz.underlying41 ?_
    refine wD2 52 [_, _] [_, _, _] Tryz.call44 (bsame_d R _ x.m.b hbx.out.1 hbx.out.2 _ y.m.b hby.out.1 hby.out.2) HM22 [2] fun W27 hm26 => ?_
    rw [g7.out]
    have HM28 := Lib.hid hm26
    clear hm26
    refine wT [53, 54, 55, 56] ?_
    refine wM 57 (.int .i64 x.m.re) (HM28.out.part1 2 rfl msC_re) Tryz.underlying3 ?_
    refine wT [58, 59, 60, 61] ?_
    refine wK 62 ?_
    refine wT [63, 64, 65, 66] ?_
    refine wK 67 ?_
    refine wT [68, 69, 70] ?_
    refine wZ (wp_cond_true rfl (wp_seq (wQ ?_)))
    refine wp_ret ?_
    refine block_ret (then_ret (then_ret (block_ret (then_ret ?_))))
    refine bodyPost_ret (results_tmp rfl _ _ _) rfl ?_
    rw [same_at hxi.out hyi.out hsm.out]
    exact does_ret (Mem.only (M := [_]) HM28.out [0] rfl) rfl rfl
   ·have g0 : (x.m.kind != y.m.kind) = false := by rw [h0]; exact bne_self_eq_false _
    have g1 : (x.m.frm != y.m.frm) = false := by rw [h1]; exact bne_self_eq_false _
    have g2 : (x.m.dst != y.m.dst) = false := by rw [h2]; exact bne_self_eq_false _
    have g3 : (x.m.seq != y.m.seq) = false := by rw [h3]; exact bne_self_eq_false _
    have g4 : (x.m.part != y.m.part) = false := by rw [h4]; exact bne_self_eq_false _
    have g5 : (x.m.epoch != y.m.epoch) = false := by rw [h5]; exact bne_self_eq_false _
    have g6 : Hid ((!decide (x.m.key = y.m.key)) = false) := Lib.hid (by rw [decide_eq_true h6]; rfl)
    have g7 : Hid (sameB x.m.b y.m.b = true) := Lib.hid (h7)
    have g8 : (x.m.re != 0) = false := by rw [h8]; rfl
    have g9 : (x.m.abt != 0) = true := bne_iff_ne.2 h9
    have hsm : Hid (sameM x.m y.m = false) := Lib.hid (by unfold sameM; rw [decide_eq_false fun h => h9 h.2.2.2.2.2.2.2.2, Bool.false_and])
    clear h0 h1 h2 h3 h4 h5 h6 h7 h8 h9
    refine wN [(0, 1), (1, 1), (2, 1), (3, 1), (4, 1), (5, 1), (6, 1), (7, 1), (8, 1), (9, 1), (10, 1), (11, 1), (12, 1), (13, 1), (14, 1), (15, 1), (16, 1), (17, 1), (18, 1), (19, 1), (20, 1), (21, 1), (22, 1), (23, 1), (24, 1), (25, 1), (26, 1), (27, 1), (28, 1), (29, 1), (30, 1), (31, 1), (32, 1), (33, 1), (34, 1), (35, 1), (36, 1), (37, 1), (38, 1), (39, 1), (40, 1), (41, 1), (42, 1), (43, 1), (44, 1), (45, 1), (46, 1), (47, 1), (48, 1), (49, 1), (50, 1), (51, 1), (52, 3), (53, 1), (54, 1), (55, 1), (56, 1), (57, 1), (58, 1), (59, 1), (60, 1), (61, 1), (62, 1), (63, 1), (64, 1), (65, 1), (66, 1), (67, 1), (68, 1), (69, 1), (70, 1)] (wT [0] ?_)
    refine wM 1 (.int .i64 x.m.kind) (HM22.out.part1 1 rfl msC_kind) Tryz.underlying3 ?_
    refine wT [2] ?_
    refine wM 3 (.int .i64 y.m.kind) (HM22.out.part1 0 rfl msC_kind) Tryz.underlying3 ?_
    refine wT [4, 5, 6] ?_
    refine wM 7 (.int .i64 x.m.frm) (HM22.out.part1 1 rfl msC_frm) Tryz.underlying3 ?_
    refine wT [8] ?_
    refine wM 9 (.int .i64 y.m.frm) (HM22.out.part1 0 rfl msC_frm) Tryz.underlying3 ?_
    refine wT [10, 11, 12, 13] ?_
    refine wM 14 (.int .i64 x.m.dst) (HM22.out.part1 1 rfl msC_dst) Tryz.underlying3 ?_
    refine wT [15] ?_
    refine wM 16 (.int .i64 y.m.dst) (HM22.out.part1 0 rfl msC_dst) Tryz.underlying3 ?_
    refine wT [17, 18, 19, 20] ?_
    refine wM 21 (.int .i64 x.m.seq) (HM22.out.part1 1 rfl msC_seq) Tryz.underlying3 ?_
    refine wT [22] ?_
    refine wM 23 (.int .i64 y.m.seq) (HM22.out.part1 0 rfl msC_seq) Tryz.underlying3 ?_
    refine wT [24, 25, 26, 27] ?_
    refine wM 28 (.int .i64 x.m.part) (HM22.out.part1 1 rfl msC_part) Tryz.underlying3 ?_
    refine wT [29] ?_
    refine wM 30 (.int .i64 y.m.part) (HM22.out.part1 0 rfl msC_part) Tryz.underlying3 ?_
    refine wT [31, 32, 33, 34] ?_
    refine wM 35 (.int .i64 x.m.epoch) (HM22.out.part1 1 rfl msC_epoch) Tryz.underlying3 ?_
    refine wT [36] ?_
    refine wM 37 (.int .i64 y.m.epoch) (HM22.out.part1 0 rfl msC_epoch) Tryz.underlying3 ?_
    refine wT [38, 39, 40, 41] ?_
    refine wM 42 (.string x.m.key) (HM22.out.part1 1 rfl msC_key) Tryz.underlying9 ?_
    refine wT [43] ?_
    refine wM 44 (.string y.m.key) (HM22.out.part1 0 rfl msC_key) Tryz.underlying9 ?_
    refine wR 45 (run_neS (s := x.m.key) (t := y.m.key) g6.out rfl rfl rfl) ?_
    refine wT [46, 47, 48] ?_
    refine wL 49 (bgC x.m.b.k (.slice x.vp x.vn x.vc)) (HM22.out.part 1 rfl (msC_bag)) Tryz.underlying41 ?_
    refine wT [50] ?_
    refine wL 51 (bgC y.m.b.k (.slice y.vp y.vn y.vc)) (HM22.out.part 0 rfl (msC_bag)) Tryz.underlying41 ?_
    refine wD2 52 [_, _] [_, _, _] Tryz.call44 (bsame_d R _ x.m.b hbx.out.1 hbx.out.2 _ y.m.b hby.out.1 hby.out.2) HM22 [2] fun W30 hm29 => ?_
    rw [g7.out]
    have HM31 := Lib.hid hm29
    clear hm29
    refine wT [53, 54, 55, 56] ?_
    refine wM 57 (.int .i64 x.m.re) (HM31.out.part1 2 rfl msC_re) Tryz.underlying3 ?_
    refine wT [58, 59, 60, 61] ?_
    refine wM 62 (.int .i64 x.m.abt) (HM31.out.part1 2 rfl msC_abt) Tryz.underlying3 ?_
    refine wT [63, 64, 65, 66] ?_
    refine wK 67 ?_
    refine wT [68, 69, 70] ?_
    refine wZ (wp_cond_true rfl (wp_seq (wQ ?_)))
    refine wp_ret ?_
    refine block_ret (then_ret (then_ret (block_ret (then_ret ?_))))
    refine bodyPost_ret (results_tmp rfl _ _ _) rfl ?_
    rw [same_at hxi.out hyi.out hsm.out]
    exact does_ret (Mem.only (M := [_]) HM31.out [0] rfl) rfl rfl
   ·have g0 : (x.m.kind != y.m.kind) = false := by rw [h0]; exact bne_self_eq_false _
    have g1 : (x.m.frm != y.m.frm) = false := by rw [h1]; exact bne_self_eq_false _
    have g2 : (x.m.dst != y.m.dst) = false := by rw [h2]; exact bne_self_eq_false _
    have g3 : (x.m.seq != y.m.seq) = false := by rw [h3]; exact bne_self_eq_false _
    have g4 : (x.m.part != y.m.part) = false := by rw [h4]; exact bne_self_eq_false _
    have g5 : (x.m.epoch != y.m.epoch) = false := by rw [h5]; exact bne_self_eq_false _
    have g6 : Hid ((!decide (x.m.key = y.m.key)) = false) := Lib.hid (by rw [decide_eq_true h6]; rfl)
    have g7 : Hid (sameB x.m.b y.m.b = true) := Lib.hid (h7)
    have g8 : (x.m.re != 0) = false := by rw [h8]; rfl
    have g9 : (x.m.abt != 0) = false := by rw [h9]; rfl
    have hsm : Hid (sameM x.m y.m = true) := Lib.hid (by unfold sameM; rw [h7, decide_eq_true ⟨h0, h1, h2, h3, h4, h5, h6, h8, h9⟩]; rfl)
    clear h0 h1 h2 h3 h4 h5 h6 h7 h8 h9
    have hc0 := hxc.out x (List.mem_of_getElem? hxi.out)
    have gc : ((x.cn : Int) != 0) = false := by rw [hc0]; rfl
    have gc' : (x.cn != 0) = false := by rw [hc0]; rfl
    replace hc0 := Lib.hid hc0
    refine wN [(0, 1), (1, 1), (2, 1), (3, 1), (4, 1), (5, 1), (6, 1), (7, 1), (8, 1), (9, 1), (10, 1), (11, 1), (12, 1), (13, 1), (14, 1), (15, 1), (16, 1), (17, 1), (18, 1), (19, 1), (20, 1), (21, 1), (22, 1), (23, 1), (24, 1), (25, 1), (26, 1), (27, 1), (28, 1), (29, 1), (30, 1), (31, 1), (32, 1), (33, 1), (34, 1), (35, 1), (36, 1), (37, 1), (38, 1), (39, 1), (40, 1), (41, 1), (42, 1), (43, 1), (44, 1), (45, 1), (46, 1), (47, 1), (48, 1), (49, 1), (50, 1), (51, 1), (52, 3), (53, 1), (54, 1), (55, 1), (56, 1), (57, 1), (58, 1), (59, 1), (60, 1), (61, 1), (62, 1), (63, 1), (64, 1), (65, 1), (66, 1), (67, 1), (68, 1), (69, 1), (70, 1)] (wT [0] ?_)
    refine wM 1 (.int .i64 x.m.kind) (HM22.out.part1 1 rfl msC_kind) Tryz.underlying3 ?_
    refine wT [2] ?_
    refine wM 3 (.int .i64 y.m.kind) (HM22.out.part1 0 rfl msC_kind) Tryz.underlying3 ?_
    refine wT [4, 5, 6] ?_
    refine wM 7 (.int .i64 x.m.frm) (HM22.out.part1 1 rfl msC_frm) Tryz.underlying3 ?_
    refine wT [8] ?_
    refine wM 9 (.int .i64 y.m.frm) (HM22.out.part1 0 rfl msC_frm) Tryz.underlying3 ?_
    refine wT [10, 11, 12, 13] ?_
    refine wM 14 (.int .i64 x.m.dst) (HM22.out.part1 1 rfl msC_dst) Tryz.underlying3 ?_
    refine wT [15] ?_
    refine wM 16 (.int .i64 y.m.dst) (HM22.out.part1 0 rfl msC_dst) Tryz.underlying3 ?_
    refine wT [17, 18, 19, 20] ?_
    refine wM 21 (.int .i64 x.m.seq) (HM22.out.part1 1 rfl msC_seq) Tryz.underlying3 ?_
    refine wT [22] ?_
    refine wM 23 (.int .i64 y.m.seq) (HM22.out.part1 0 rfl msC_seq) Tryz.underlying3 ?_
    refine wT [24, 25, 26, 27] ?_
    refine wM 28 (.int .i64 x.m.part) (HM22.out.part1 1 rfl msC_part) Tryz.underlying3 ?_
    refine wT [29] ?_
    refine wM 30 (.int .i64 y.m.part) (HM22.out.part1 0 rfl msC_part) Tryz.underlying3 ?_
    refine wT [31, 32, 33, 34] ?_
    refine wM 35 (.int .i64 x.m.epoch) (HM22.out.part1 1 rfl msC_epoch) Tryz.underlying3 ?_
    refine wT [36] ?_
    refine wM 37 (.int .i64 y.m.epoch) (HM22.out.part1 0 rfl msC_epoch) Tryz.underlying3 ?_
    refine wT [38, 39, 40, 41] ?_
    refine wM 42 (.string x.m.key) (HM22.out.part1 1 rfl msC_key) Tryz.underlying9 ?_
    refine wT [43] ?_
    refine wM 44 (.string y.m.key) (HM22.out.part1 0 rfl msC_key) Tryz.underlying9 ?_
    refine wR 45 (run_neS (s := x.m.key) (t := y.m.key) g6.out rfl rfl rfl) ?_
    refine wT [46, 47, 48] ?_
    refine wL 49 (bgC x.m.b.k (.slice x.vp x.vn x.vc)) (HM22.out.part 1 rfl (msC_bag)) Tryz.underlying41 ?_
    refine wT [50] ?_
    refine wL 51 (bgC y.m.b.k (.slice y.vp y.vn y.vc)) (HM22.out.part 0 rfl (msC_bag)) Tryz.underlying41 ?_
    refine wD2 52 [_, _] [_, _, _] Tryz.call44 (bsame_d R _ x.m.b hbx.out.1 hbx.out.2 _ y.m.b hby.out.1 hby.out.2) HM22 [2] fun W33 hm32 => ?_
    rw [g7.out]
    have HM34 := Lib.hid hm32
    clear hm32
    refine wT [53, 54, 55, 56] ?_
    refine wM 57 (.int .i64 x.m.re) (HM34.out.part1 2 rfl msC_re) Tryz.underlying3 ?_
    refine wT [58, 59, 60, 61] ?_
    refine wM 62 (.int .i64 x.m.abt) (HM34.out.part1 2 rfl msC_abt) Tryz.underlying3 ?_
    refine wT [63, 64, 65, 66] ?_
    refine wM 67 (.slice x.cp x.cn x.cc) (HM34.out.part1 2 rfl msC_cl) Tryz.underlying50 ?_
    refine wT [68, 69, 70] ?_
    refine wZ (wp_cond_false rfl (wp_skip (block_normal (then_normal (wQ ?_)))))
    refine ⟨by kernel_rfl, ?_⟩
    exact ⟨xs.length - (i + 1), by omega, i + 1, rfl, rfl, hi1, hS.out.next hxi.out hyi.out hsm.out, (Mem.only (M := [_]) HM34.out [0] rfl)⟩
  ·have hge : Hid (xs.length ≤ i) := Lib.hid (by have : ¬ (i : Int) < (xs.length : Int) := (by simpa using h2); omega)
   clear h2
   refine wp_exit ?_
   refine then_exit (then_exit (block_exit ?_))
   refine then_normal (wp_seq (wQ ?_))
   refine wp_ret (bodyPost_ret (results_tmp rfl _ _ _) rfl ?_)
   rw [same_yes hle.out hS.out hge.out]
   exact does_ret (Mem.only (M := [_]) HM1.out [0] rfl) rfl rfl
 ·have hne := Lib.hid hl
  have g1 : ((xs.length : Int) != (ys.length : Int)) = true := bne_iff_ne.2 (by omega)
  have g1' : (xs.length != ys.length) = true := bne_iff_ne.2 hl
  clear hl
  refine wQ ?_
  refine wp_cond_true rfl (wp_seq (wQ ?_))
  refine wp_ret (then_ret (bodyPost_ret (results_tmp rfl _ _ _) rfl ?_))
  rw [same_no hne.out]
  exact does_ret (Mem.only (M := [_]) HM0.out [0] rfl) rfl rfl
end Go.Proofs.YtcchkkdbagpgjaaGreat
