/- The landed teller: its cells, its object, its contracts. -/
import Derived.Test.YtnkchmafofpimaaGsB
import Derived.Test.YtnkchmafofpimaaRgL
namespace Go.Proofs.Ytnkchmafofpimaa
open Go Go.RowKit Go.BigFrame

/-- The landed teller's cells. -/
def nxV (po : Nat) : Value := .func (.func 27) #[.pointer (some ⟨po, 0, none⟩)] #[]
def glC (self : Int) (po : Nat) (h : Nat → Bool) (k : Nat → Rg) (z : Nat → Value) : List Value := (.int .i64 self :: hsC h) ++ (ksC k z ++ [nxV po])
section
variable {self : Int} {po : Nat} {h : Nat → Bool} {k : Nat → Rg} {z : Nat → Value}
theorem glC_len : (glC self po h k z).length = 354 := by kernel_rfl
theorem glC_h {i : Nat} (hi : i < 8) : (glC self po h k z)[1 + i]? = some (.bool (h i)) :=
  sub_app [.int .i64 self] (hsC h) (ksC k z ++ [nxV po]) (k := i) (u := .bool (h i)) (by unfold hsC; rw [List.getElem?_map, List.getElem?_range hi]; rfl)
theorem glC_k {i : Nat} (hi : i < 8) : ∀ j u, (rgC (k i) (z i))[j]? = some u → (glC self po h k z)[9 + i * 43 + j]? = some u := fun j u hu => by
  rw [Nat.add_assoc]
  exact sub_app (.int .i64 self :: hsC h) (ksC k z) [nxV po] (ks_at _ i j i u (List.getElem?_range hi) hu)
theorem glC_n : (glC self po h k z)[353]? = some (nxV po) := by kernel_rfl
set_option maxRecDepth 100000 in
theorem glC_setK {i : Nat} (hi : i < 8) (r : Rg) (s : Value) : putL (glC self po h k z) (9 + i * 43) (rgC r s) = glC self po h (upd k i r) (upd z i s) := by
  rcases (show i = 0 ∨ i = 1 ∨ i = 2 ∨ i = 3 ∨ i = 4 ∨ i = 5 ∨ i = 6 ∨ i = 7 from by omega) with rfl | rfl | rfl | rfl | rfl | rfl | rfl | rfl <;> kernel_rfl
set_option maxRecDepth 100000 in
theorem glC_setH {i : Nat} (hi : i < 8) (b : Bool) : putL (glC self po h k z) (1 + i) [.bool b] = glC self po (upd h i b) k z := by
  rcases (show i = 0 ∨ i = 1 ∨ i = 2 ∨ i = 3 ∨ i = 4 ∨ i = 5 ∨ i = 6 ∨ i = 7 from by omega) with rfl | rfl | rfl | rfl | rfl | rfl | rfl | rfl <;> kernel_rfl
end
/-- What the landed teller holds, its rows aside: where they lie; and its order. -/
abbrev glT (d : Nat) (self : Int) (po : Nat) (h : Nat → Bool) (k : Nat → Rg) (z : Nat → Value) : At := boxT d (.cells (glC self po h k z).toArray 69 (0, 0))
def gtc (d : Nat) (S : Tl) (z : Nat → Value) : At := exT fun po : Nat => [glT d S.self po S.h S.k z, ordT po S.self S.o]
section
variable {L : List At} {H0 : Nat → Prop} {w W : World}
theorem Mem.gc {d : Nat} {S : Tl} {z : Nat → Value} (h : Mem (gtc d S z :: L) H0 w W) : ∃ po, Mem (glT d S.self po S.h S.k z :: ordT po S.self S.o :: L) H0 w W := Mem.ex h
theorem Mem.toGc {d po : Nat} {S : Tl} {z : Nat → Value} (h : Mem (glT d S.self po S.h S.k z :: ordT po S.self S.o :: L) H0 w W) : Mem (gtc d S z :: L) H0 w W := Mem.addEx po h
theorem Mem.ordS {u : Value} {self : Int} (h : Mem (exT (fun b => [prT (u = .pointer (some ⟨b, 0, none⟩)), ordT b self []]) :: L) H0 w W) : ∃ po, u = .pointer (some ⟨po, 0, none⟩) ∧ Mem (ordT po self [] :: L) H0 w W := by
  obtain ⟨x, h⟩ := Mem.ex h
  obtain ⟨hu, h⟩ := Mem.pr h
  exact ⟨x, hu, h⟩
end
section
variable {P : Program} {ops : Array Oper} {S : Nat → Prop} {Q : Act → World → Prop} {a : Act} {W w : World} {H0 : Nat → Prop} {rest : List (Nat × Nat)} {i : Nat} {o : Oper} {L pre post rem : List At} {d : Option Tmp}
/-- A call of a function value of two arguments. -/
theorem wpS_doesV2 {f : Nat} {x x1 x2 : Operand} {ts : Array TypeId} {first cap : Array Value} {args : Array Value} {v v1 v2 : Value} {out : List At} (hi : ops[i]? = some o) (hw : Region.wanted o (yielded ops a.tmps) = true) (ho : o.op = .call { callee := .value x, args := #[x1, x2], argTypes := ts }) (hx : a.eval x = .func (.func f) first cap) (eg : ∀ args w, (callFunc f args).run P w = .ok (.enter f args) w)
    (hc : Does P f args pre v post) (h1 : a.eval x1 = v1) (h2 : a.eval x2 = v2) (hargs : first ++ #[v1, v2] ++ cap = args) (hm : Mem L H0 w W) (idx : List Nat) (hsel : selA L idx = (pre, rem)) (hS : CovS rem S) (hout : post ++ rem = out) (hd : o.dst = d) (h : ∀ W', Mem out H0 w W' → GK S W W' → wpS P ops S Q rest (a.put d v) W') : wpS P ops S Q ((i, 3) :: rest) a W :=
  wpS_enter hi hw (run_callV ho hx eg (by rw [← hargs]; simp [h1, h2])) (R := fun u W' => u = v ∧ Mem (post ++ rem) H0 w W' ∧ GK S W W') ((hc.mem hm idx hsel hS).mono fun e W' ⟨he, h⟩ => ⟨v, he, rfl, h⟩) (fun _ _ h => h.2.2) hd fun u W' ⟨hu, h1, h2⟩ => by subst hu; exact h W' (hout ▸ h1) h2
end
theorem run_eqnilF {a : Act} {o : Oper} {x y : Operand} {f : Fn} {fs cs : Array Value} {W : World} {tt : TypeId} (ho : o.op = .binOp .eql 65 x y tt) (hx : a.eval x = .func f fs cs) (hy : a.eval y = .nilFunc) : (execOp a.eval o).run Try.prog W = .ok (.value (.bool false)) W := by
  have he : (binOp .eql 65 (.func f fs cs) .nilFunc).run Try.prog W = .ok (.bool false) W := by kernel_rfl
  have hg : (eqGuard .eql 65 x y (.func f fs cs) .nilFunc).run Try.prog W = .ok () W := by
    unfold eqGuard
    simp [go_sem]
  unfold execOp
  simp only [ho, hx, hy, Sem.run_bind, hg, he, Result.andThen_ok, Sem.run_pure]
theorem left_sub' {rest P : List Int} {draw : Int} (h8 : P.length ≤ 64) : ∀ x ∈ leftNow rest P draw, x ∈ P := fun x hx => by
  unfold leftNow at hx
  split at hx
  · exact (shuf_mem h8 draw).subset hx
  · rename_i y r e
    rw [← e, List.mem_filter] at hx
    exact List.contains_iff_mem.1 hx.2
theorem next_or (S : Tl) (peers : List Int) (draw : Int) {n : Int} (h : (turnO S peers draw).1 = n) : n = -1 ∨ (0 ≤ n ∧ n < 8) := by
  subst h
  unfold turnO nextOf
  split
  · exact .inl rfl
  · rename_i hne
    obtain ⟨x, r, hx⟩ := round_head (rest := S.o) (draw := draw) hne
    have hp := peersOf_len peers S.self
    have hm := left_sub' (P := peersOf peers S.self) (by omega) x (by rw [hx]; exact List.mem_cons_self)
    rw [hx]
    exact .inr (peersOf_mem.1 hm).1
theorem knows_new' (R : At) (self : Int) : KnowsOf R (newT self).k (fun _ => .slice none 0 0) := fun _ => ⟨srcNil R, Nat.zero_le _⟩
theorem Mem.toOne' {B : At} {L : List At} {H0 : Nat → Prop} {w W : World} (h : Mem (B :: L) H0 w W) : Mem (listT [B] :: L) H0 w W := SEnd.mono h fun _ h => star_mono (fun _ h => star_comm (starl_emp h)) (fun _ h => h) h
/-- The landed teller at d; its rows lie beside what was there before, B. -/
def gtT (d : Nat) (S : Tl) (B : At) : At := exT fun x : (Nat → Value) × List At => [prT (KnowsOf (listT (B :: x.2)) S.k x.1), gtc d S x.1, listT (B :: x.2)]
def someGt (u : Value) (S : Tl) (B : At) : At := exT fun d : Nat => [prT (u = .pointer (some ⟨d, 0, none⟩)), gtT d S B]
section
variable {B : At} {l L : List At} {H0 : Nat → Prop} {w W : World}
theorem Mem.gt {d : Nat} {S : Tl} (h : Mem (gtT d S B :: L) H0 w W) : ∃ z l, KnowsOf (listT (B :: l)) S.k z ∧ Mem (gtc d S z :: listT (B :: l) :: L) H0 w W := by
  obtain ⟨x, h⟩ := Mem.ex h
  obtain ⟨hu, h⟩ := Mem.pr h
  exact ⟨x.1, x.2, hu, h⟩
theorem Mem.toGt {d : Nat} {S : Tl} {z : Nat → Value} (hz : KnowsOf (listT (B :: l)) S.k z) (h : Mem (gtc d S z :: listT (B :: l) :: L) H0 w W) : Mem (gtT d S B :: L) H0 w W := Mem.addEx (z, l) (Mem.addPr hz h)
theorem Mem.someGt {u : Value} {S : Tl} (h : Mem (someGt u S B :: L) H0 w W) : ∃ d, u = .pointer (some ⟨d, 0, none⟩) ∧ Mem (gtT d S B :: L) H0 w W := by
  obtain ⟨x, h⟩ := Mem.ex h
  obtain ⟨hu, h⟩ := Mem.pr h
  exact ⟨x, hu, h⟩
end
theorem gnode_any (n : Int) (w : World) : Gives Try.prog 25 #[.int .i64 n] w (.bool (nodeE n)) := by
  unfold Gives
  by_cases q0 : 0 ≤ n <;> by_cases q1 : n < 8
  all_goals try (exfalso; omega)
  all_goals first | (have H : Hid (nodeE n = true) := Lib.hid (by simp [nodeE]; omega)) | (have H : Hid (nodeE n = false) := Lib.hid (by simp [nodeE]; omega))
  all_goals
    go_enter Try.func25, Try.ntmps25
    go_wp2
    all_goals go_ret
    all_goals exact ⟨by rw [H.out]; rfl, Later.ex (by repeat (first | exact ext_refl _ | refine ext_alloc ?_ _ | refine ext_later ?_ _ | refine ext_drew ?_ | refine ext_drewN ?_ _))⟩
theorem gnode_d (n : Int) : Does Try.prog 25 #[.int .i64 n] [] (.bool (nodeE n)) [] := Does.of_any fun w => gnode_any n w
set_option maxHeartbeats 4000000 in
set_option maxRecDepth 100000 in
theorem gnew_d (self : Int) (hs : nodeE self = true) (B : At) : DoesU Try.prog 10 #[.int .i64 self] [B] (fun u => [someGt u (newT self) B]) := by
  intro w H hp
  have HM0 := Lib.hid (mem_refl hp)
  clear hp
  go_enter Try.func10, Try.ntmps10
  refine wp_seq ?_
  refine wp_region_N [(0, 1)] (by kernel_rfl) ?_
  refine wpS_this [0] rfl (by kernel_rfl) (by simp only [pickL, nthL, List.cons_append, List.nil_append]; rfl) ?_
  repeat (go_big_quiet_step (fail))
  refine wpQuiet_nil ?_
  refine wpS_nil ?_
  refine then_normal ?_
  refine wp_seq ?_
  refine wp_seq ?_
  have gn := hs
  refine wp_region_N [(0, 1), (1, 3), (2, 1)] (by kernel_rfl) ?_
  refine wpS_this [0] rfl (by kernel_rfl) (by simp only [pickL, nthL, List.cons_append, List.nil_append]; rfl) ?_
  repeat (go_big_quiet_step (fail))
  refine wpQuiet_nil ?_
  refine wpS_does1 (i := 1) (d := some 4) (rem := [_]) (out := [_]) rfl (by rfl) rfl Try.call25 (gnode_d _) rfl HM0.out [] rfl covS_nil rfl rfl ?_
  rintro W2 hm1 -
  have HM3 := Lib.hid hm1
  clear hm1
  simp only [Act.put, List.setIfInBounds_toArray, List.set_cons_succ, List.set_cons_zero]
  refine wpS_this [2] rfl (by kernel_rfl) (by simp only [pickL, nthL, List.cons_append, List.nil_append]; rfl) ?_
  repeat (go_big_quiet_step (fail))
  refine wpQuiet_nil ?_
  refine wpS_nil ?_
  refine then_normal ?_
  refine wp_cond_false rfl ?_
  refine wp_skip ?_
  refine then_normal ?_
  refine wp_seq ?_
  refine wp_region_N [(0, 1), (1, 1), (2, 3), (3, 0), (4, 1), (5, 3), (6, 1)] (by kernel_rfl) ?_
  refine wpS_this [0, 1] rfl (by kernel_rfl) (by simp only [pickL, nthL, List.cons_append, List.nil_append]; rfl) ?_
  repeat (go_big_quiet_step (fail))
  refine wpQuiet_nil ?_
  refine wpS_doesU1 (i := 2) (d := some 8) (rem := [_]) rfl (by rfl) rfl Try.call26 (ord_new self) rfl HM3.out [] rfl covS_nil (fun _ => rfl) rfl ?_
  rintro u6 W5 hm4 -
  obtain ⟨po, rfl, hm4q⟩ := Mem.ordS hm4
  clear hm4
  have HM7 := Lib.hid hm4q
  clear hm4q
  simp only [Act.put, List.setIfInBounds_toArray, List.set_cons_succ, List.set_cons_zero]
  refine wpS_func1 (i := 3) (d := some 9) (v := .pointer (some ⟨po, 0, none⟩)) rfl (by rfl) rfl rfl rfl ?_
  simp only [Act.put, List.setIfInBounds_toArray, List.set_cons_succ, List.set_cons_zero]
  refine wpS_read (i := 4) (d := some 10) (v := .agg (glC self po (fun _ => false) (fun _ => noR) (fun _ => .slice none 0 0)).toArray) rfl (by rfl) (by kernel_rfl) rfl ?_
  simp only [Act.put, List.setIfInBounds_toArray, List.set_cons_succ, List.set_cons_zero]
  refine wpS_boxA (i := 5) (dd := 11) rfl (by rfl) rfl rfl HM7.out covS_nil rfl ?_
  rintro b10 W9 hm8 -
  have HM11 := Lib.hid hm8
  clear hm8
  simp only [Act.put, List.setIfInBounds_toArray, List.set_cons_succ, List.set_cons_zero]
  refine wpS_this [6] rfl (by kernel_rfl) (by simp only [pickL, nthL, List.cons_append, List.nil_append]; rfl) ?_
  repeat (go_big_quiet_step (fail))
  refine wpQuiet_nil ?_
  refine wpS_nil ?_
  refine then_normal ?_
  refine wp_ret ?_
  refine bodyPost_ret (results_tmp rfl _ _ _) rfl ?_
  exact doesU_ret (post := fun u => [someGt u (newT self) B]) (Mem.addEx (f := fun d : Nat => [prT (Value.pointer (some ⟨b10, 0, none⟩) = Value.pointer (some ⟨d, 0, none⟩)), gtT d (newT self) B]) b10 (Mem.addPr rfl (Mem.toGt (z := fun _ => .slice none 0 0) (l := []) (S := newT self) (knows_new' _ self) (Mem.toGc (po := po) (S := newT self) (Mem.only (M := [_, _, _]) (Mem.toOne' (Mem.only (M := [_, _, _]) HM11.out [2, 0, 0] rfl)) [1, 1, 0] rfl))))) rfl

set_option maxHeartbeats 4000000 in
set_option maxRecDepth 100000 in
theorem gnil_d (self : Int) (hs : nodeE self = false) : Does Try.prog 10 #[.int .i64 self] [] (.pointer none) [] := by
  intro w H hp
  have HM0 := Lib.hid (mem_refl hp)
  clear hp
  go_enter Try.func10, Try.ntmps10
  refine wp_seq ?_
  refine wp_region_N [(0, 1)] (by kernel_rfl) ?_
  refine wpS_this [0] rfl (by kernel_rfl) (by simp only [pickL, nthL, List.cons_append, List.nil_append]; rfl) ?_
  repeat (go_big_quiet_step (fail))
  refine wpQuiet_nil ?_
  refine wpS_nil ?_
  refine then_normal ?_
  refine wp_seq ?_
  refine wp_seq ?_
  have gn := hs
  refine wp_region_N [(0, 1), (1, 3), (2, 1)] (by kernel_rfl) ?_
  refine wpS_this [0] rfl (by kernel_rfl) (by simp only [pickL, nthL, List.cons_append, List.nil_append]; rfl) ?_
  repeat (go_big_quiet_step (fail))
  refine wpQuiet_nil ?_
  refine wpS_does1 (i := 1) (d := some 4) (rem := []) (out := []) rfl (by rfl) rfl Try.call25 (gnode_d _) rfl HM0.out [] rfl covS_nil rfl rfl ?_
  rintro W2 hm1 -
  have HM3 := Lib.hid hm1
  clear hm1
  simp only [Act.put, List.setIfInBounds_toArray, List.set_cons_succ, List.set_cons_zero]
  refine wpS_this [2] rfl (by kernel_rfl) (by simp only [pickL, nthL, List.cons_append, List.nil_append]; rfl) ?_
  repeat (go_big_quiet_step (fail))
  refine wpQuiet_nil ?_
  refine wpS_nil ?_
  refine then_normal ?_
  refine wp_cond_true rfl ?_
  refine wp_seq ?_
  refine wp_region_N [(0, 1)] (by kernel_rfl) ?_
  refine wpS_this [0] rfl (by kernel_rfl) (by simp only [pickL, nthL, List.cons_append, List.nil_append]; rfl) ?_
  repeat (go_big_quiet_step (fail))
  refine wpQuiet_nil ?_
  refine wpS_nil ?_
  refine then_normal ?_
  refine wp_ret ?_
  refine then_ret ?_
  refine bodyPost_ret (results_tmp rfl _ _ _) rfl ?_
  exact does_ret (Mem.only (M := []) HM3.out [] rfl) rfl rfl

set_option maxHeartbeats 4000000 in
set_option maxRecDepth 100000 in
theorem gheard_d (d : Nat) (S : Tl) (B : At) (f : Int) (vr : Value) (r : Rg) (hr : Reads elemI B vr r.p.2.2) (lr : r.p.2.2.length ≤ 1000) : Does Try.prog 14 #[.pointer (some ⟨d, 0, none⟩), .int .i64 f, rgV r vr] [gtT d S B] (.tuple #[]) [gtT d (heardT S f r) B] := by
  intro w H hp
  have HM0 := Lib.hid (mem_refl hp)
  clear hp
  obtain ⟨z, l, hz', HMg⟩ := Mem.gt HM0.out
  clear HM0
  obtain ⟨po, HMt⟩ := Mem.gc HMg
  clear HMg
  have HM0 := Lib.hid HMt
  clear HMt
  have hz := Lib.hid hz'
  clear hz'
  obtain ⟨R, hR⟩ : ∃ R, listT (B :: l) = R := ⟨_, rfl⟩
  rw [hR] at hz HM0
  replace hR := Lib.hid hR
  have hrR : Hid (Reads elemI R vr r.p.2.2) := Lib.hid (by rw [← hR.out]; exact reads_first hr)
  obtain ⟨pr, cr, rfl⟩ := row_form (Mem.src HM0.out 2 rfl hrR.out)
  clear hr
  go_enter Try.func14, Try.ntmps14
  refine wp_seq ?_
  refine wp_region_N [(0, 3)] (by kernel_rfl) ?_
  refine wpS_boxA (i := 0) (dd := 5) rfl (by rfl) rfl rfl HM0.out covS_nil rfl ?_
  rintro b3 W2 hm1 -
  have HM4 := Lib.hid hm1
  clear hm1
  simp only [Act.put, List.setIfInBounds_toArray, List.set_cons_succ, List.set_cons_zero]
  refine wpS_nil ?_
  refine then_normal ?_
  refine wp_seq ?_
  refine wp_seq ?_
  rcases (show nodeE f ≠ true ∨ (nodeE f = true ∧ f = S.self) ∨ (nodeE f = true ∧ f ≠ S.self ∧ mayR r ≠ true) ∨ (nodeE f = true ∧ f ≠ S.self ∧ mayR r = true) from by by_cases k1 : nodeE f = true <;> by_cases k2 : f = S.self <;> by_cases k3 : mayR r = true <;> simp [k1, k2, k3]) with h1 | ⟨h1, h2⟩ | ⟨h1, h2, h3⟩ | ⟨h1, h2, h3⟩
  · have gn := Bool.eq_false_iff.2 h1
    have hc : Hid (heardT S f r = S) := Lib.hid (if_neg (by unfold hearB; rw [gn]; simp))
    clear h1
    refine wp_region_N [(0, 1), (1, 1), (2, 1), (3, 1), (4, 3), (5, 1), (6, 1), (7, 1), (8, 1), (9, 1), (10, 1), (11, 1), (12, 1), (13, 1), (14, 1), (15, 1), (16, 1), (17, 3), (18, 1), (19, 1)] (by kernel_rfl) ?_
    refine wpS_this [0, 1, 2, 3] rfl (by kernel_rfl) (by simp only [pickL, nthL, List.cons_append, List.nil_append]; rfl) ?_
    repeat (go_big_quiet_step (fail))
    refine wpQuiet_nil ?_
    refine wpS_does1 (i := 4) (d := some 10) (rem := [_, _, _, _]) (out := [_, _, _, _]) rfl (by rfl) rfl Try.call25 (gnode_d _) rfl HM4.out [] rfl covS_nil rfl rfl ?_
    rintro W6 hm5 -
    have HM7 := Lib.hid hm5
    clear hm5
    simp only [Act.put, List.setIfInBounds_toArray, List.set_cons_succ, List.set_cons_zero]
    refine wpS_this [5, 6, 7, 8, 9, 10, 11] rfl (by kernel_rfl) (by simp only [pickL, nthL, List.cons_append, List.nil_append]; rfl) ?_
    repeat (go_big_quiet_step (fail))
    refine wpQuiet_nil ?_
    refine wpS_skip (i := 12) (d := some 18) rfl (by rfl) rfl ?_
    simp only [Act.put, List.setIfInBounds_toArray, List.set_cons_succ, List.set_cons_zero]
    refine wpS_this [13, 14, 15] rfl (by kernel_rfl) (by simp only [pickL, nthL, List.cons_append, List.nil_append]; rfl) ?_
    repeat (go_big_quiet_step (fail))
    refine wpQuiet_nil ?_
    refine wpS_skip (i := 16) (d := some 22) rfl (by rfl) rfl ?_
    simp only [Act.put, List.setIfInBounds_toArray, List.set_cons_succ, List.set_cons_zero]
    refine wpS_skip (i := 17) (d := some 23) rfl (by rfl) rfl ?_
    simp only [Act.put, List.setIfInBounds_toArray, List.set_cons_succ, List.set_cons_zero]
    refine wpS_this [18, 19] rfl (by kernel_rfl) (by simp only [pickL, nthL, List.cons_append, List.nil_append]; rfl) ?_
    repeat (go_big_quiet_step (fail))
    refine wpQuiet_nil ?_
    refine wpS_nil ?_
    refine then_normal ?_
    refine wp_cond_true rfl ?_
    refine wp_ret ?_
    refine then_ret ?_
    refine bodyPost_ret (results_none rfl _ _ _) rfl ?_
    refine does_ret (Mem.toGt (z := z) (l := l) (S := heardT S _ r) ?_ ?_) rfl rfl
    · rw [hc.out, hR.out]; exact hz.out
    · rw [hc.out, hR.out]; exact Mem.toGc (po := po) (Mem.only (M := [_, _, _]) HM7.out [1, 1, 1] rfl)
  · have gn := h1
    subst h2
    have ge : (S.self == S.self) = true := beq_self_eq_true _
    have hc : Hid (heardT S S.self r = S) := Lib.hid (if_neg (by unfold hearB; simp))
    clear h1
    refine wp_region_N [(0, 1), (1, 1), (2, 1), (3, 1), (4, 3), (5, 1), (6, 1), (7, 1), (8, 1), (9, 1), (10, 1), (11, 1), (12, 1), (13, 1), (14, 1), (15, 1), (16, 1), (17, 3), (18, 1), (19, 1)] (by kernel_rfl) ?_
    refine wpS_this [0, 1, 2, 3] rfl (by kernel_rfl) (by simp only [pickL, nthL, List.cons_append, List.nil_append]; rfl) ?_
    repeat (go_big_quiet_step (fail))
    refine wpQuiet_nil ?_
    refine wpS_does1 (i := 4) (d := some 10) (rem := [_, _, _, _]) (out := [_, _, _, _]) rfl (by rfl) rfl Try.call25 (gnode_d _) rfl HM4.out [] rfl covS_nil rfl rfl ?_
    rintro W9 hm8 -
    have HM10 := Lib.hid hm8
    clear hm8
    simp only [Act.put, List.setIfInBounds_toArray, List.set_cons_succ, List.set_cons_zero]
    refine wpS_this [5, 6, 7, 8, 9, 10, 11] rfl (by kernel_rfl) (by simp only [pickL, nthL, List.cons_append, List.nil_append]; rfl) ?_
    repeat (go_big_quiet_step (fail))
    refine wpQuiet_nil ?_
    refine wpS_load1 (i := 12) (d := some 18) (u := .int .i64 S.self) rfl (by rfl) rfl rfl (HM10.out.sub1 1 rfl rfl) Try.underlying3 rfl rfl ?_
    simp only [Act.put, List.setIfInBounds_toArray, List.set_cons_succ, List.set_cons_zero]
    refine wpS_this [13, 14, 15] rfl (by kernel_rfl) (by simp only [pickL, nthL, List.cons_append, List.nil_append]; rfl) ?_
    repeat (go_big_quiet_step (fail))
    refine wpQuiet_nil ?_
    refine wpS_skip (i := 16) (d := some 22) rfl (by rfl) rfl ?_
    simp only [Act.put, List.setIfInBounds_toArray, List.set_cons_succ, List.set_cons_zero]
    refine wpS_skip (i := 17) (d := some 23) rfl (by rfl) rfl ?_
    simp only [Act.put, List.setIfInBounds_toArray, List.set_cons_succ, List.set_cons_zero]
    refine wpS_this [18, 19] rfl (by kernel_rfl) (by simp only [pickL, nthL, List.cons_append, List.nil_append]; rfl) ?_
    repeat (go_big_quiet_step (fail))
    refine wpQuiet_nil ?_
    refine wpS_nil ?_
    refine then_normal ?_
    refine wp_cond_true rfl ?_
    refine wp_ret ?_
    refine then_ret ?_
    refine bodyPost_ret (results_none rfl _ _ _) rfl ?_
    refine does_ret (Mem.toGt (z := z) (l := l) (S := heardT S _ r) ?_ ?_) rfl rfl
    · rw [hc.out, hR.out]; exact hz.out
    · rw [hc.out, hR.out]; exact Mem.toGc (po := po) (Mem.only (M := [_, _, _]) HM10.out [1, 1, 1] rfl)
  · have gn := h1
    have ge : (f == S.self) = false := beq_eq_false_iff_ne.2 h2
    have gm := Bool.eq_false_iff.2 h3
    have hc : Hid (heardT S f r = S) := Lib.hid (if_neg (by unfold hearB; rw [gm]; simp))
    clear h1 h2 h3
    refine wp_region_N [(0, 1), (1, 1), (2, 1), (3, 1), (4, 3), (5, 1), (6, 1), (7, 1), (8, 1), (9, 1), (10, 1), (11, 1), (12, 1), (13, 1), (14, 1), (15, 1), (16, 1), (17, 3), (18, 1), (19, 1)] (by kernel_rfl) ?_
    refine wpS_this [0, 1, 2, 3] rfl (by kernel_rfl) (by simp only [pickL, nthL, List.cons_append, List.nil_append]; rfl) ?_
    repeat (go_big_quiet_step (fail))
    refine wpQuiet_nil ?_
    refine wpS_does1 (i := 4) (d := some 10) (rem := [_, _, _, _]) (out := [_, _, _, _]) rfl (by rfl) rfl Try.call25 (gnode_d _) rfl HM4.out [] rfl covS_nil rfl rfl ?_
    rintro W12 hm11 -
    have HM13 := Lib.hid hm11
    clear hm11
    simp only [Act.put, List.setIfInBounds_toArray, List.set_cons_succ, List.set_cons_zero]
    refine wpS_this [5, 6, 7, 8, 9, 10, 11] rfl (by kernel_rfl) (by simp only [pickL, nthL, List.cons_append, List.nil_append]; rfl) ?_
    repeat (go_big_quiet_step (fail))
    refine wpQuiet_nil ?_
    refine wpS_load1 (i := 12) (d := some 18) (u := .int .i64 S.self) rfl (by rfl) rfl rfl (HM13.out.sub1 1 rfl rfl) Try.underlying3 rfl rfl ?_
    simp only [Act.put, List.setIfInBounds_toArray, List.set_cons_succ, List.set_cons_zero]
    refine wpS_this [13, 14, 15] rfl (by kernel_rfl) (by simp only [pickL, nthL, List.cons_append, List.nil_append]; rfl) ?_
    repeat (go_big_quiet_step (fail))
    refine wpQuiet_nil ?_
    refine wpS_loadA (i := 16) (d := some 22) (cells := rgC (r) (.slice pr r.p.2.2.length cr)) rfl (by rfl) rfl rfl (HM13.out.sub 0 rfl (fun k u h => by rw [Nat.zero_add]; exact h)) Try.underlying37 rfl (by kernel_rfl) rfl ?_
    simp only [Act.put, List.setIfInBounds_toArray, List.set_cons_succ, List.set_cons_zero]
    refine wpS_does1 (i := 17) (d := some 23) (rem := [_, _, _]) (out := [_, _, _, _]) rfl (by rfl) rfl Try.call20 (gmay_d R _ r hrR.out lr) rfl HM13.out [3] rfl covS_nil rfl rfl ?_
    rintro W15 hm14 -
    have HM16 := Lib.hid hm14
    clear hm14
    simp only [Act.put, List.setIfInBounds_toArray, List.set_cons_succ, List.set_cons_zero]
    refine wpS_this [18, 19] rfl (by kernel_rfl) (by simp only [pickL, nthL, List.cons_append, List.nil_append]; rfl) ?_
    repeat (go_big_quiet_step (fail))
    refine wpQuiet_nil ?_
    refine wpS_nil ?_
    refine then_normal ?_
    refine wp_cond_true rfl ?_
    refine wp_ret ?_
    refine then_ret ?_
    refine bodyPost_ret (results_none rfl _ _ _) rfl ?_
    refine does_ret (Mem.toGt (z := z) (l := l) (S := heardT S _ r) ?_ ?_) rfl rfl
    · rw [hc.out, hR.out]; exact hz.out
    · rw [hc.out, hR.out]; exact Mem.toGc (po := po) (Mem.only (M := [_, _, _]) HM16.out [2, 2, 0] rfl)
  · have gn := h1
    have ge : (f == S.self) = false := beq_eq_false_iff_ne.2 h2
    have gm := h3
    have hb : hearB S.self f r = true := by unfold hearB; rw [h1, h3, decide_eq_true h2]; rfl
    have hn8 : Hid (0 ≤ f ∧ f < 8) := Lib.hid (of_decide_eq_true h1)
    have hf8 : Hid (f.toNat < 8) := Lib.hid (by have := hn8.out; omega)
    obtain ⟨j, hj'⟩ : ∃ j, joinR (S.k f.toNat) r = j := ⟨_, rfl⟩
    have lj : Hid (j.p.2.2.length ≤ 1000) := Lib.hid (by rw [← hj']; exact joinR_len (hz.out f.toNat).2 lr)
    have hc : Hid (heardT S f r = ⟨S.self, S.o, upd S.h f.toNat true, upd S.k f.toNat j⟩) := Lib.hid (by rw [← hj']; exact if_pos hb)
    have hj := Lib.hid hj'
    clear h1 h2 h3 hb hj'
    refine wp_region_N [(0, 1), (1, 1), (2, 1), (3, 1), (4, 3), (5, 1), (6, 1), (7, 1), (8, 1), (9, 1), (10, 1), (11, 1), (12, 1), (13, 1), (14, 1), (15, 1), (16, 1), (17, 3), (18, 1), (19, 1)] (by kernel_rfl) ?_
    refine wpS_this [0, 1, 2, 3] rfl (by kernel_rfl) (by simp only [pickL, nthL, List.cons_append, List.nil_append]; rfl) ?_
    repeat (go_big_quiet_step (fail))
    refine wpQuiet_nil ?_
    refine wpS_does1 (i := 4) (d := some 10) (rem := [_, _, _, _]) (out := [_, _, _, _]) rfl (by rfl) rfl Try.call25 (gnode_d _) rfl HM4.out [] rfl covS_nil rfl rfl ?_
    rintro W18 hm17 -
    have HM19 := Lib.hid hm17
    clear hm17
    simp only [Act.put, List.setIfInBounds_toArray, List.set_cons_succ, List.set_cons_zero]
    refine wpS_this [5, 6, 7, 8, 9, 10, 11] rfl (by kernel_rfl) (by simp only [pickL, nthL, List.cons_append, List.nil_append]; rfl) ?_
    repeat (go_big_quiet_step (fail))
    refine wpQuiet_nil ?_
    refine wpS_load1 (i := 12) (d := some 18) (u := .int .i64 S.self) rfl (by rfl) rfl rfl (HM19.out.sub1 1 rfl rfl) Try.underlying3 rfl rfl ?_
    simp only [Act.put, List.setIfInBounds_toArray, List.set_cons_succ, List.set_cons_zero]
    refine wpS_this [13, 14, 15] rfl (by kernel_rfl) (by simp only [pickL, nthL, List.cons_append, List.nil_append]; rfl) ?_
    repeat (go_big_quiet_step (fail))
    refine wpQuiet_nil ?_
    refine wpS_loadA (i := 16) (d := some 22) (cells := rgC (r) (.slice pr r.p.2.2.length cr)) rfl (by rfl) rfl rfl (HM19.out.sub 0 rfl (fun k u h => by rw [Nat.zero_add]; exact h)) Try.underlying37 rfl (by kernel_rfl) rfl ?_
    simp only [Act.put, List.setIfInBounds_toArray, List.set_cons_succ, List.set_cons_zero]
    refine wpS_does1 (i := 17) (d := some 23) (rem := [_, _, _]) (out := [_, _, _, _]) rfl (by rfl) rfl Try.call20 (gmay_d R _ r hrR.out lr) rfl HM19.out [3] rfl covS_nil rfl rfl ?_
    rintro W21 hm20 -
    have HM22 := Lib.hid hm20
    clear hm20
    simp only [Act.put, List.setIfInBounds_toArray, List.set_cons_succ, List.set_cons_zero]
    refine wpS_this [18, 19] rfl (by kernel_rfl) (by simp only [pickL, nthL, List.cons_append, List.nil_append]; rfl) ?_
    repeat (go_big_quiet_step (fail))
    refine wpQuiet_nil ?_
    refine wpS_nil ?_
    refine then_normal ?_
    refine wp_cond_false rfl ?_
    refine wp_skip ?_
    refine then_normal ?_
    refine wp_seq ?_
    refine wp_region_M (fun k => k ∈ ([b3, d] : List Nat)) [(0, 0), (1, 0), (2, 1), (3, 1), (4, 1), (5, 1), (6, 1), (7, 1), (8, 1), (10, 0), (11, 0), (9, 3), (12, 1), (13, 4)] (by kernel_rfl) (by kernel_rfl) HM22.out ?_
    intro W23 hm24
    have HM25 := Lib.hid hm24
    clear hm24
    refine wpS_all [0, 1] rfl (by kernel_rfl) (by simp only [pickL, nthL, List.cons_append, List.nil_append]; rfl) ?_
    repeat (go_big_quiet_step (fail))
    refine wpQuiet_nil ?_
    refine wpS_this [2, 3, 4, 5] rfl (by kernel_rfl) (by simp only [pickL, nthL, List.cons_append, List.nil_append]; rfl) ?_
    repeat (go_big_quiet_step (fail))
    refine wpQuiet_nil ?_
    refine wpS_read (i := 6) (d := some 32) rfl (by rfl) (run_addrRg (hn8.out) rfl rfl rfl) rfl ?_
    simp only [Act.put, List.setIfInBounds_toArray, List.set_cons_succ, List.set_cons_zero]
    refine wpS_loadA (i := 7) (d := some 33) (cells := rgC (S.k f.toNat) (z f.toNat)) rfl (by rfl) rfl rfl (HM25.out.sub 2 rfl (glC_k (hf8.out))) Try.underlying37 rfl (by kernel_rfl) rfl ?_
    simp only [Act.put, List.setIfInBounds_toArray, List.set_cons_succ, List.set_cons_zero]
    refine wpS_loadA (i := 8) (d := some 34) (cells := rgC (r) (.slice pr r.p.2.2.length cr)) rfl (by rfl) rfl rfl (HM25.out.sub 1 rfl (fun k u h => by rw [Nat.zero_add]; exact h)) Try.underlying37 rfl (by kernel_rfl) rfl ?_
    simp only [Act.put, List.setIfInBounds_toArray, List.set_cons_succ, List.set_cons_zero]
    refine wpS_all [10, 11] rfl (by kernel_rfl) (by simp only [pickL, nthL, List.cons_append, List.nil_append]; rfl) ?_
    repeat (go_big_quiet_step (fail))
    refine wpQuiet_nil ?_
    refine wpS_doesU2 (i := 9) (d := some 35) (rem := [_, _, _]) rfl (by rfl) rfl Try.call22 (gjoin_d R _ (S.k f.toNat) (hz.out f.toNat).1 (hz.out f.toNat).2 _ r hrR.out lr j hj.out) rfl rfl HM25.out [0] rfl (covS_box 0 rfl (covS_box 1 rfl covS_nil)) (fun _ => rfl) rfl ?_
    rintro u29 W27 hm26 hg28
    obtain ⟨pj, cj, rfl, hm26q⟩ := Mem.ring rfl hm26
    clear hm26
    have HM30 := Lib.hid hm26q
    clear hm26q
    simp only [Act.put, List.setIfInBounds_toArray, List.set_cons_succ, List.set_cons_zero]
    refine wpS_read (i := 12) (d := some 38) rfl (by rfl) (run_addrRg (hn8.out) rfl rfl rfl) rfl ?_
    simp only [Act.put, List.setIfInBounds_toArray, List.set_cons_succ, List.set_cons_zero]
    refine wpS_storeA4 (i := 13) (L2 := [_, _, _, _]) (cs' := glC S.self po S.h (upd S.k f.toNat j) (upd z f.toNat (.slice pj j.p.2.2.length cj))) rfl (by rfl) rfl rfl rfl (by kernel_rfl) (rgC_one _ _ _) HM30.out 3 rfl rfl (Nat.ble_eq_true_of_le (by rw [glC_len]; show _ + 43 ≤ _; have := hf8.out; omega)) (glC_setK (hf8.out) (j) (.slice pj j.p.2.2.length cj))  rfl ?_
    rintro W32 hm31
    have HM33 := Lib.hid hm31
    clear hm31
    refine wpS_nil ?_
    refine then_normal ?_
    refine wp_region_N [(0, 1), (1, 1), (2, 1), (3, 1), (4, 1), (5, 3)] (by kernel_rfl) ?_
    refine wpS_this [0, 1, 2, 3] rfl (by kernel_rfl) (by simp only [pickL, nthL, List.cons_append, List.nil_append]; rfl) ?_
    repeat (go_big_quiet_step (fail))
    refine wpQuiet_nil ?_
    refine wpS_read (i := 4) (d := some 43) rfl (by rfl) (run_addrHs (hn8.out) rfl rfl rfl) rfl ?_
    simp only [Act.put, List.setIfInBounds_toArray, List.set_cons_succ, List.set_cons_zero]
    refine wpS_store1 (i := 5) (v := .bool _) (L2 := [_, _, _, _]) (cs' := glC S.self po (upd S.h f.toNat true) (upd S.k f.toNat j) (upd z f.toNat (.slice pj j.p.2.2.length cj))) rfl (by rfl) rfl rfl rfl rfl (by kernel_rfl) rfl HM33.out 0 rfl rfl (Nat.ble_eq_true_of_le (by rw [glC_len]; show _ + 1 ≤ _; have := hf8.out; omega)) (glC_setH (hf8.out) true) covS_nil rfl ?_
    rintro W35 hm34 -
    have HM36 := Lib.hid hm34
    clear hm34
    refine wpS_nil ?_
    refine bodyPost_end (results_none rfl _ _ _) rfl ?_
    refine does_ret (Mem.toGt (l := rowT elemI _ _ :: l) (S := heardT S f r) ?_ (by rw [hc.out]; exact Mem.toGc (po := po) (S := ⟨S.self, S.o, upd S.h f.toNat true, upd S.k f.toNat j⟩) (Mem.only (M := [_, _, _]) (Mem.into (B := B) (l := l) (by rw [hR.out]; exact (Mem.only (M := [_, _, _, _]) HM36.out [1, 1, 0, 1] rfl))) [1, 1, 0] rfl))) rfl rfl
    rw [hc.out]
    exact KnowsOf.upd (KnowsOf.add (by rw [hR.out]; exact hz.out)) _ (reads_new rowT_reads) lj.out

set_option maxHeartbeats 4000000 in
set_option maxRecDepth 100000 in
theorem gknown_d (d po : Nat) (S : Tl) (z : Nat → Value) (R : At) (hz' : KnowsOf R S.k z) (vr : Value) (r : Rg) (hr' : Reads elemI R vr r.p.2.2) (lr : r.p.2.2.length ≤ 1000) (n : Int) (hn' : 0 ≤ n ∧ n < 8) : Does Try.prog 28 #[.pointer (some ⟨d, 0, none⟩), .int .i64 n, rgV r vr] [glT d S.self po S.h S.k z, R] (.bool (S.h n.toNat && belowR r (S.k n.toNat))) [glT d S.self po S.h S.k z, R] := by
  intro w H hp
  have HM0 := Lib.hid (mem_refl hp)
  clear hp
  have hz := Lib.hid hz'
  clear hz'
  have hr := Lib.hid hr'
  clear hr'
  have hi8 : Hid (n.toNat < 8) := Lib.hid (by omega)
  have hn8 := Lib.hid hn'
  clear hn'
  obtain ⟨pr, cr, rfl⟩ := row_form (Mem.src HM0.out 1 rfl hr.out)
  go_enter Try.func28, Try.ntmps28
  refine wp_seq ?_
  refine wp_region_N [(0, 3), (1, 1)] (by kernel_rfl) ?_
  refine wpS_boxA (i := 0) (dd := 5) rfl (by rfl) rfl rfl HM0.out covS_nil rfl ?_
  rintro b3 W2 hm1 -
  have HM4 := Lib.hid hm1
  clear hm1
  simp only [Act.put, List.setIfInBounds_toArray, List.set_cons_succ, List.set_cons_zero]
  refine wpS_this [1] rfl (by kernel_rfl) (by simp only [pickL, nthL, List.cons_append, List.nil_append]; rfl) ?_
  repeat (go_big_quiet_step (fail))
  refine wpQuiet_nil ?_
  refine wpS_nil ?_
  refine then_normal ?_
  refine wp_seq ?_
  cases hh : S.h n.toNat
  · have gh := hh
    refine wp_region_M (fun k => k ∈ ([b3, d] : List Nat)) [(0, 1), (1, 1), (2, 1), (3, 1), (4, 1), (5, 1), (6, 1), (7, 1), (8, 1), (9, 1), (10, 1), (11, 1), (12, 1), (13, 1), (14, 3), (15, 1), (16, 1)] (by kernel_rfl) (by kernel_rfl) HM4.out ?_
    intro W5 hm6
    have HM7 := Lib.hid hm6
    clear hm6
    refine wpS_this [0, 1, 2, 3] rfl (by kernel_rfl) (by simp only [pickL, nthL, List.cons_append, List.nil_append]; rfl) ?_
    repeat (go_big_quiet_step (fail))
    refine wpQuiet_nil ?_
    refine wpS_read (i := 4) (d := some 11) rfl (by rfl) (run_addrHs (hn8.out) rfl rfl rfl) rfl ?_
    simp only [Act.put, List.setIfInBounds_toArray, List.set_cons_succ, List.set_cons_zero]
    refine wpS_load1 (i := 5) (d := some 12) (u := .bool _) rfl (by rfl) rfl rfl (HM7.out.sub1 1 rfl (glC_h (hi8.out))) Try.underlying4 rfl rfl ?_
    simp only [Act.put, List.setIfInBounds_toArray, List.set_cons_succ, List.set_cons_zero]
    rw [gh]
    refine wpS_this [6] rfl (by kernel_rfl) (by simp only [pickL, nthL, List.cons_append, List.nil_append]; rfl) ?_
    repeat (go_big_quiet_step (fail))
    refine wpQuiet_nil ?_
    refine wpS_skip (i := 7) (d := some 14) rfl (by rfl) rfl ?_
    simp only [Act.put, List.setIfInBounds_toArray, List.set_cons_succ, List.set_cons_zero]
    refine wpS_this [8, 9, 10, 11] rfl (by kernel_rfl) (by simp only [pickL, nthL, List.cons_append, List.nil_append]; rfl) ?_
    repeat (go_big_quiet_step (fail))
    refine wpQuiet_nil ?_
    refine wpS_skip (i := 12) (d := some 19) rfl (by rfl) rfl ?_
    simp only [Act.put, List.setIfInBounds_toArray, List.set_cons_succ, List.set_cons_zero]
    refine wpS_skip (i := 13) (d := some 20) rfl (by rfl) rfl ?_
    simp only [Act.put, List.setIfInBounds_toArray, List.set_cons_succ, List.set_cons_zero]
    refine wpS_skip (i := 14) (d := some 21) rfl (by rfl) rfl ?_
    simp only [Act.put, List.setIfInBounds_toArray, List.set_cons_succ, List.set_cons_zero]
    refine wpS_this [15, 16] rfl (by kernel_rfl) (by simp only [pickL, nthL, List.cons_append, List.nil_append]; rfl) ?_
    repeat (go_big_quiet_step (fail))
    refine wpQuiet_nil ?_
    refine wpS_nil ?_
    refine then_normal ?_
    refine wp_ret ?_
    refine bodyPost_ret (results_tmp rfl _ _ _) rfl ?_
    exact does_ret (Mem.only (M := [_, _]) HM7.out [1, 1] rfl) rfl rfl
  · have gh := hh
    refine wp_region_M (fun k => k ∈ ([b3, d] : List Nat)) [(0, 1), (1, 1), (2, 1), (3, 1), (4, 1), (5, 1), (6, 1), (7, 1), (8, 1), (9, 1), (10, 1), (11, 1), (12, 1), (13, 1), (14, 3), (15, 1), (16, 1)] (by kernel_rfl) (by kernel_rfl) HM4.out ?_
    intro W8 hm9
    have HM10 := Lib.hid hm9
    clear hm9
    refine wpS_this [0, 1, 2, 3] rfl (by kernel_rfl) (by simp only [pickL, nthL, List.cons_append, List.nil_append]; rfl) ?_
    repeat (go_big_quiet_step (fail))
    refine wpQuiet_nil ?_
    refine wpS_read (i := 4) (d := some 11) rfl (by rfl) (run_addrHs (hn8.out) rfl rfl rfl) rfl ?_
    simp only [Act.put, List.setIfInBounds_toArray, List.set_cons_succ, List.set_cons_zero]
    refine wpS_load1 (i := 5) (d := some 12) (u := .bool _) rfl (by rfl) rfl rfl (HM10.out.sub1 1 rfl (glC_h (hi8.out))) Try.underlying4 rfl rfl ?_
    simp only [Act.put, List.setIfInBounds_toArray, List.set_cons_succ, List.set_cons_zero]
    rw [gh]
    refine wpS_this [6] rfl (by kernel_rfl) (by simp only [pickL, nthL, List.cons_append, List.nil_append]; rfl) ?_
    repeat (go_big_quiet_step (fail))
    refine wpQuiet_nil ?_
    refine wpS_loadA (i := 7) (d := some 14) (cells := rgC (r) (.slice pr r.p.2.2.length cr)) rfl (by rfl) rfl rfl (HM10.out.sub 0 rfl (fun k u h => by rw [Nat.zero_add]; exact h)) Try.underlying37 rfl (by kernel_rfl) rfl ?_
    simp only [Act.put, List.setIfInBounds_toArray, List.set_cons_succ, List.set_cons_zero]
    refine wpS_this [8, 9, 10, 11] rfl (by kernel_rfl) (by simp only [pickL, nthL, List.cons_append, List.nil_append]; rfl) ?_
    repeat (go_big_quiet_step (fail))
    refine wpQuiet_nil ?_
    refine wpS_read (i := 12) (d := some 19) rfl (by rfl) (run_addrRg (hn8.out) rfl rfl rfl) rfl ?_
    simp only [Act.put, List.setIfInBounds_toArray, List.set_cons_succ, List.set_cons_zero]
    refine wpS_loadA (i := 13) (d := some 20) (cells := rgC (S.k n.toNat) (z n.toNat)) rfl (by rfl) rfl rfl (HM10.out.sub 1 rfl (glC_k (hi8.out))) Try.underlying37 rfl (by kernel_rfl) rfl ?_
    simp only [Act.put, List.setIfInBounds_toArray, List.set_cons_succ, List.set_cons_zero]
    refine wpS_does2 (i := 14) (d := some 21) (rem := [_, _]) (out := [_, _, _]) rfl (by rfl) rfl Try.call21 (gbelow_d R _ r hr.out lr _ (S.k n.toNat) (hz.out n.toNat).1 (hz.out n.toNat).2) rfl rfl HM10.out [2] rfl (covS_box 0 rfl (covS_box 1 rfl covS_nil)) rfl rfl ?_
    rintro W12 hm11 hg13
    have HM14 := Lib.hid hm11
    clear hm11
    simp only [Act.put, List.setIfInBounds_toArray, List.set_cons_succ, List.set_cons_zero]
    refine wpS_this [15, 16] rfl (by kernel_rfl) (by simp only [pickL, nthL, List.cons_append, List.nil_append]; rfl) ?_
    repeat (go_big_quiet_step (fail))
    refine wpQuiet_nil ?_
    refine wpS_nil ?_
    refine then_normal ?_
    refine wp_ret ?_
    refine bodyPost_ret (results_tmp rfl _ _ _) rfl ?_
    exact does_ret (Mem.only (M := [_, _]) HM14.out [2, 0] rfl) rfl rfl

set_option maxHeartbeats 4000000 in
set_option maxRecDepth 100000 in
theorem gturn_d (d : Nat) (S : Tl) (z : Nat → Value) (R : At) (hz' : KnowsOf R S.k z) (vr : Value) (r : Rg) (hr : Reads elemI R vr r.p.2.2) (lr : r.p.2.2.length ≤ 1000) (vp : Value) (peers : List Int) (hp : Reads elemI R vp peers) (hpl : peers.length ≤ 1000) (draw : Int) (h0 : 0 ≤ draw) (h1 : draw < 18446744073709551616) : Does Try.prog 12 #[.pointer (some ⟨d, 0, none⟩), rgV r vr, vp, .int .u64 draw] [gtc d S z, R] (.int .i64 (turnA S r peers draw)) [gtc d (turnT S peers draw) z, R] := by
  intro w H hp
  have HM0 := Lib.hid (mem_refl hp)
  clear hp
  obtain ⟨po, HMt⟩ := Mem.gc HM0.out
  clear HM0
  have HM0 := Lib.hid HMt
  clear HMt
  have hz := Lib.hid hz'
  clear hz'
  have hrR : Hid (Reads elemI R vr r.p.2.2) := Lib.hid hr
  have hpR : Hid (∀ W H, R.p W H → RowAt elemI W vp peers) := Lib.hid (fun W H h => rowAt_src (hp W H h))
  obtain ⟨pr, cr, rfl⟩ := row_form (Mem.src HM0.out 2 rfl hrR.out)
  clear hr hp
  obtain ⟨n, hn'⟩ : ∃ n, (turnO S peers draw).1 = n := ⟨_, rfl⟩
  have hN : Hid (Does Try.prog 27 #[.pointer (some ⟨po, 0, none⟩), vp, .int .u64 draw] [R, ordT po S.self S.o] (.int .i64 n) [R, ordT po S.self (turnO S peers draw).2]) := Lib.hid (by have h := ord_next po S.self S.o peers draw R vp hpR.out hpl h0 h1; rw [show (nextOf S.self S.o peers draw).1 = n from hn'] at h; exact h)
  have hn := Lib.hid hn'
  clear hn'
  have hor := Lib.hid (next_or S peers draw hn.out)
  clear h0 h1
  go_enter Try.func12, Try.ntmps12
  refine wp_seq ?_
  refine wp_region_N [(0, 3), (1, 1)] (by kernel_rfl) ?_
  refine wpS_boxA (i := 0) (dd := 5) rfl (by rfl) rfl rfl HM0.out covS_nil rfl ?_
  rintro b3 W2 hm1 -
  have HM4 := Lib.hid hm1
  clear hm1
  simp only [Act.put, List.setIfInBounds_toArray, List.set_cons_succ, List.set_cons_zero]
  refine wpS_this [1] rfl (by kernel_rfl) (by simp only [pickL, nthL, List.cons_append, List.nil_append]; rfl) ?_
  repeat (go_big_quiet_step (fail))
  refine wpQuiet_nil ?_
  refine wpS_nil ?_
  refine then_normal ?_
  refine wp_seq ?_
  refine wp_seq ?_
  refine wp_region_N [(0, 1), (1, 1), (2, 1), (3, 1), (4, 1), (5, 1), (6, 1), (7, 1), (8, 1)] (by kernel_rfl) ?_
  refine wpS_this [0, 1, 2, 3, 4, 5] rfl (by kernel_rfl) (by simp only [pickL, nthL, List.cons_append, List.nil_append]; rfl) ?_
  repeat (go_big_quiet_step (fail))
  refine wpQuiet_nil ?_
  refine wpS_load1 (i := 6) (d := some 16) (u := .func (.func 27) #[.pointer (some ⟨po, 0, none⟩)] #[]) rfl (by rfl) rfl rfl (HM4.out.sub1 1 rfl glC_n) Try.underlying65 rfl rfl ?_
  simp only [Act.put, List.setIfInBounds_toArray, List.set_cons_succ, List.set_cons_zero]
  refine wpS_read (i := 7) (d := some 17) rfl (by rfl) (run_eqnilF rfl rfl rfl) rfl ?_
  simp only [Act.put, List.setIfInBounds_toArray, List.set_cons_succ, List.set_cons_zero]
  refine wpS_this [8] rfl (by kernel_rfl) (by simp only [pickL, nthL, List.cons_append, List.nil_append]; rfl) ?_
  repeat (go_big_quiet_step (fail))
  refine wpQuiet_nil ?_
  refine wpS_nil ?_
  refine then_normal ?_
  refine wp_cond_false rfl ?_
  refine wp_skip ?_
  refine then_normal ?_
  refine wp_seq ?_
  refine wp_region_N [(0, 1), (1, 1), (2, 1), (3, 1), (4, 1), (5, 1), (6, 3), (7, 1)] (by kernel_rfl) ?_
  refine wpS_this [0, 1, 2] rfl (by kernel_rfl) (by simp only [pickL, nthL, List.cons_append, List.nil_append]; rfl) ?_
  repeat (go_big_quiet_step (fail))
  refine wpQuiet_nil ?_
  refine wpS_load1 (i := 3) (d := some 22) (u := .func (.func 27) #[.pointer (some ⟨po, 0, none⟩)] #[]) rfl (by rfl) rfl rfl (HM4.out.sub1 1 rfl glC_n) Try.underlying65 rfl rfl ?_
  simp only [Act.put, List.setIfInBounds_toArray, List.set_cons_succ, List.set_cons_zero]
  refine wpS_this [4, 5] rfl (by kernel_rfl) (by simp only [pickL, nthL, List.cons_append, List.nil_append]; rfl) ?_
  repeat (go_big_quiet_step (fail))
  refine wpQuiet_nil ?_
  refine wpS_doesV2 (i := 6) (d := some 25) (rem := [_, _]) (out := [_, _, _, _]) rfl (by rfl) rfl rfl Try.call27 (hN.out) rfl rfl rfl HM4.out [3, 2] rfl covS_nil rfl rfl ?_
  rintro W6 hm5 -
  have HM7 := Lib.hid hm5
  clear hm5
  simp only [Act.put, List.setIfInBounds_toArray, List.set_cons_succ, List.set_cons_zero]
  refine wpS_this [7] rfl (by kernel_rfl) (by simp only [pickL, nthL, List.cons_append, List.nil_append]; rfl) ?_
  repeat (go_big_quiet_step (fail))
  refine wpQuiet_nil ?_
  refine wpS_nil ?_
  refine then_normal ?_
  refine wp_seq ?_
  refine wp_seq ?_
  rcases (show n = -1 ∨ ((0 ≤ n ∧ n < 8) ∧ (S.h n.toNat && belowR r (S.k n.toNat)) = true) ∨ ((0 ≤ n ∧ n < 8) ∧ (S.h n.toNat && belowR r (S.k n.toNat)) = false) from hor.out.elim .inl fun h => (Bool.eq_false_or_eq_true (S.h n.toNat && belowR r (S.k n.toNat))).elim (fun k => .inr (.inl ⟨h, k⟩)) fun k => .inr (.inr ⟨h, k⟩)) with h1 | ⟨h1, h2⟩ | ⟨h1, h2⟩
  · have hq : Hid (turnA S r peers draw = -1) := Lib.hid (by unfold turnA quietB; rw [hn.out, h1]; rfl)
    have gl : (n == -1) = true := beq_iff_eq.2 h1
    clear h1
    refine wp_region_N [(0, 1), (1, 1), (2, 1), (3, 1), (4, 1), (5, 1), (6, 3), (7, 1)] (by kernel_rfl) ?_
    refine wpS_this [0, 1, 2, 3, 4] rfl (by kernel_rfl) (by simp only [pickL, nthL, List.cons_append, List.nil_append]; rfl) ?_
    repeat (go_big_quiet_step (fail))
    refine wpQuiet_nil ?_
    refine wpS_skip (i := 5) (d := some 31) rfl (by rfl) rfl ?_
    simp only [Act.put, List.setIfInBounds_toArray, List.set_cons_succ, List.set_cons_zero]
    refine wpS_skip (i := 6) (d := some 32) rfl (by rfl) rfl ?_
    simp only [Act.put, List.setIfInBounds_toArray, List.set_cons_succ, List.set_cons_zero]
    refine wpS_this [7] rfl (by kernel_rfl) (by simp only [pickL, nthL, List.cons_append, List.nil_append]; rfl) ?_
    repeat (go_big_quiet_step (fail))
    refine wpQuiet_nil ?_
    refine wpS_nil ?_
    refine then_normal ?_
    refine wp_cond_true rfl ?_
    refine wp_seq ?_
    refine wp_region_N [(0, 1)] (by kernel_rfl) ?_
    refine wpS_this [0] rfl (by kernel_rfl) (by simp only [pickL, nthL, List.cons_append, List.nil_append]; rfl) ?_
    repeat (go_big_quiet_step (fail))
    refine wpQuiet_nil ?_
    refine wpS_nil ?_
    refine then_normal ?_
    refine wp_ret ?_
    refine then_ret ?_
    refine bodyPost_ret (results_tmp rfl _ _ _) rfl ?_
    exact does_ret (Mem.toGc (po := po) (S := turnT S peers draw) (Mem.only (M := [_, _, _]) HM7.out [3, 1, 0] rfl)) (congrArg (Value.int .i64) hq.out).symm rfl
  · have gl : (n == -1) = false := beq_eq_false_iff_ne.2 (by omega)
    have hkb : Hid ((S.h n.toNat && belowR r (S.k n.toNat)) = true) := Lib.hid h2
    have hq : Hid (turnA S r peers draw = -1) := Lib.hid (by unfold turnA quietB; rw [hn.out, decide_eq_false (show ¬ n < 0 by omega), hkb.out]; rfl)
    have hn8 := Lib.hid h1
    clear h1 h2
    refine wp_region_N [(0, 1), (1, 1), (2, 1), (3, 1), (4, 1), (5, 1), (6, 3), (7, 1)] (by kernel_rfl) ?_
    refine wpS_this [0, 1, 2, 3, 4] rfl (by kernel_rfl) (by simp only [pickL, nthL, List.cons_append, List.nil_append]; rfl) ?_
    repeat (go_big_quiet_step (fail))
    refine wpQuiet_nil ?_
    refine wpS_loadA (i := 5) (d := some 31) (cells := rgC (r) (.slice pr r.p.2.2.length cr)) rfl (by rfl) rfl rfl (HM7.out.sub 2 rfl (fun k u h => by rw [Nat.zero_add]; exact h)) Try.underlying37 rfl (by kernel_rfl) rfl ?_
    simp only [Act.put, List.setIfInBounds_toArray, List.set_cons_succ, List.set_cons_zero]
    refine wpS_does3 (i := 6) (d := some 32) (rem := [_, _]) (out := [_, _, _, _]) rfl (by rfl) rfl Try.call28 (gknown_d d po S z R hz.out _ r hrR.out lr n hn8.out) rfl rfl rfl HM7.out [3, 0] rfl covS_nil rfl rfl ?_
    rintro W9 hm8 -
    rw [hkb.out]
    have HM10 := Lib.hid hm8
    clear hm8
    simp only [Act.put, List.setIfInBounds_toArray, List.set_cons_succ, List.set_cons_zero]
    refine wpS_this [7] rfl (by kernel_rfl) (by simp only [pickL, nthL, List.cons_append, List.nil_append]; rfl) ?_
    repeat (go_big_quiet_step (fail))
    refine wpQuiet_nil ?_
    refine wpS_nil ?_
    refine then_normal ?_
    refine wp_cond_true rfl ?_
    refine wp_seq ?_
    refine wp_region_N [(0, 1)] (by kernel_rfl) ?_
    refine wpS_this [0] rfl (by kernel_rfl) (by simp only [pickL, nthL, List.cons_append, List.nil_append]; rfl) ?_
    repeat (go_big_quiet_step (fail))
    refine wpQuiet_nil ?_
    refine wpS_nil ?_
    refine then_normal ?_
    refine wp_ret ?_
    refine then_ret ?_
    refine bodyPost_ret (results_tmp rfl _ _ _) rfl ?_
    exact does_ret (Mem.toGc (po := po) (S := turnT S peers draw) (Mem.only (M := [_, _, _]) HM10.out [0, 1, 0] rfl)) (congrArg (Value.int .i64) hq.out).symm rfl
  · have gl : (n == -1) = false := beq_eq_false_iff_ne.2 (by omega)
    have hkb : Hid ((S.h n.toNat && belowR r (S.k n.toNat)) = false) := Lib.hid h2
    have hq : Hid (turnA S r peers draw = n) := Lib.hid (by unfold turnA quietB; rw [hn.out, decide_eq_false (show ¬ n < 0 by omega), hkb.out]; rfl)
    have hn8 := Lib.hid h1
    clear h1 h2
    refine wp_region_N [(0, 1), (1, 1), (2, 1), (3, 1), (4, 1), (5, 1), (6, 3), (7, 1)] (by kernel_rfl) ?_
    refine wpS_this [0, 1, 2, 3, 4] rfl (by kernel_rfl) (by simp only [pickL, nthL, List.cons_append, List.nil_append]; rfl) ?_
    repeat (go_big_quiet_step (fail))
    refine wpQuiet_nil ?_
    refine wpS_loadA (i := 5) (d := some 31) (cells := rgC (r) (.slice pr r.p.2.2.length cr)) rfl (by rfl) rfl rfl (HM7.out.sub 2 rfl (fun k u h => by rw [Nat.zero_add]; exact h)) Try.underlying37 rfl (by kernel_rfl) rfl ?_
    simp only [Act.put, List.setIfInBounds_toArray, List.set_cons_succ, List.set_cons_zero]
    refine wpS_does3 (i := 6) (d := some 32) (rem := [_, _]) (out := [_, _, _, _]) rfl (by rfl) rfl Try.call28 (gknown_d d po S z R hz.out _ r hrR.out lr n hn8.out) rfl rfl rfl HM7.out [3, 0] rfl covS_nil rfl rfl ?_
    rintro W12 hm11 -
    rw [hkb.out]
    have HM13 := Lib.hid hm11
    clear hm11
    simp only [Act.put, List.setIfInBounds_toArray, List.set_cons_succ, List.set_cons_zero]
    refine wpS_this [7] rfl (by kernel_rfl) (by simp only [pickL, nthL, List.cons_append, List.nil_append]; rfl) ?_
    repeat (go_big_quiet_step (fail))
    refine wpQuiet_nil ?_
    refine wpS_nil ?_
    refine then_normal ?_
    refine wp_cond_false rfl ?_
    refine wp_skip ?_
    refine then_normal ?_
    refine wp_seq ?_
    refine wp_region_N [(0, 1), (1, 1)] (by kernel_rfl) ?_
    refine wpS_this [0, 1] rfl (by kernel_rfl) (by simp only [pickL, nthL, List.cons_append, List.nil_append]; rfl) ?_
    repeat (go_big_quiet_step (fail))
    refine wpQuiet_nil ?_
    refine wpS_nil ?_
    refine then_normal ?_
    refine wp_ret ?_
    refine bodyPost_ret (results_tmp rfl _ _ _) rfl ?_
    exact does_ret (Mem.toGc (po := po) (S := turnT S peers draw) (Mem.only (M := [_, _, _]) HM13.out [0, 1, 0] rfl)) (congrArg (Value.int .i64) hq.out).symm rfl

set_option maxHeartbeats 4000000 in
set_option maxRecDepth 100000 in
theorem gknows_d (d : Nat) (S : Tl) (z : Nat → Value) (R : At) (hz' : KnowsOf R S.k z) (n : Int) : DoesU Try.prog 16 #[.pointer (some ⟨d, 0, none⟩), .int .i64 n] [gtc d S z, R] (fun u => [ringTe u (knowsR S n) (.bool (knowsB S n)), gtc d S z, R]) := by
  intro w H hp
  have HM0 := Lib.hid (mem_refl hp)
  clear hp
  obtain ⟨po, HMt⟩ := Mem.gc HM0.out
  clear HM0
  have HM0 := Lib.hid HMt
  clear HMt
  have hz := Lib.hid hz'
  clear hz'
  obtain ⟨pk, ck, hke'⟩ := row_form (Mem.src HM0.out 2 rfl (hz.out n.toNat).1)
  have hkq' := (hz.out n.toNat).1
  rw [hke'] at hkq'
  have hke := Lib.hid hke'
  clear hke'
  have hkq := Lib.hid hkq'
  clear hkq'
  go_enter Try.func16, Try.ntmps16
  refine wp_seq ?_
  refine wp_region_N [(0, 3), (1, 1)] (by kernel_rfl) ?_
  refine wpS_alloc (i := 0) (dd := 4) (z := rgV noR (.slice none 0 0)) (cs := (rgC noR (.slice none 0 0)).toArray) rfl (by rfl) rfl (by kernel_rfl) rfl HM0.out covS_nil rfl ?_
  rintro b3 W2 hm1 -
  have HM4 := Lib.hid hm1
  clear hm1
  simp only [Act.put, List.setIfInBounds_toArray, List.set_cons_succ, List.set_cons_zero]
  refine wpS_this [1] rfl (by kernel_rfl) (by simp only [pickL, nthL, List.cons_append, List.nil_append]; rfl) ?_
  repeat (go_big_quiet_step (fail))
  refine wpQuiet_nil ?_
  refine wpS_nil ?_
  refine then_normal ?_
  refine wp_seq ?_
  refine wp_seq ?_
  rcases (show nodeE n = false ∨ (nodeE n = true ∧ S.h n.toNat = false) ∨ (nodeE n = true ∧ S.h n.toNat = true) from by cases nodeE n <;> cases S.h n.toNat <;> simp) with h1 | ⟨h1, h2⟩ | ⟨h1, h2⟩
  · have hq1 : Hid (knowsB S n = false) := Lib.hid (by unfold knowsB; simp [*])
    have hq2 : Hid (knowsR S n = noR) := Lib.hid (if_neg (by rw [hq1.out]; exact Bool.false_ne_true))
    have gn := h1
    clear h1
    refine wp_region_N [(0, 1), (1, 1), (2, 1), (3, 1), (4, 3), (5, 1), (6, 1), (7, 1), (8, 1), (9, 1), (10, 1), (11, 1), (12, 1), (13, 1), (14, 1), (15, 1)] (by kernel_rfl) ?_
    refine wpS_this [0, 1, 2, 3] rfl (by kernel_rfl) (by simp only [pickL, nthL, List.cons_append, List.nil_append]; rfl) ?_
    repeat (go_big_quiet_step (fail))
    refine wpQuiet_nil ?_
    refine wpS_does1 (i := 4) (d := some 11) (rem := [_, _, _, _]) (out := [_, _, _, _]) rfl (by rfl) rfl Try.call25 (gnode_d _) rfl HM4.out [] rfl covS_nil rfl rfl ?_
    rintro W6 hm5 -
    have HM7 := Lib.hid hm5
    clear hm5
    simp only [Act.put, List.setIfInBounds_toArray, List.set_cons_succ, List.set_cons_zero]
    refine wpS_this [5, 6, 7, 8, 9, 10, 11] rfl (by kernel_rfl) (by simp only [pickL, nthL, List.cons_append, List.nil_append]; rfl) ?_
    repeat (go_big_quiet_step (fail))
    refine wpQuiet_nil ?_
    refine wpS_skip (i := 12) (d := some 19) rfl (by rfl) rfl ?_
    simp only [Act.put, List.setIfInBounds_toArray, List.set_cons_succ, List.set_cons_zero]
    refine wpS_skip (i := 13) (d := some 20) rfl (by rfl) rfl ?_
    simp only [Act.put, List.setIfInBounds_toArray, List.set_cons_succ, List.set_cons_zero]
    refine wpS_this [14, 15] rfl (by kernel_rfl) (by simp only [pickL, nthL, List.cons_append, List.nil_append]; rfl) ?_
    repeat (go_big_quiet_step (fail))
    refine wpQuiet_nil ?_
    refine wpS_nil ?_
    refine then_normal ?_
    refine wp_cond_true rfl ?_
    refine wp_seq ?_
    refine wp_region_N [(0, 1), (1, 3), (2, 1)] (by kernel_rfl) ?_
    refine wpS_read (i := 0) (d := some 23) (v := rgV noR (.slice none 0 0)) rfl (by rfl) (by kernel_rfl) rfl ?_
    simp only [Act.put, List.setIfInBounds_toArray, List.set_cons_succ, List.set_cons_zero]
    refine wpS_storeA (i := 1) (L2 := [_, _, _]) (cs' := rgC (noR) (.slice none 0 0)) rfl (by rfl) rfl rfl rfl (by kernel_rfl) (rgC_one _ _ _) HM7.out 0 rfl rfl (by kernel_rfl) (by kernel_rfl) covS_nil rfl ?_
    rintro W9 hm8 -
    have HM10 := Lib.hid hm8
    clear hm8
    refine wpS_this [2] rfl (by kernel_rfl) (by simp only [pickL, nthL, List.cons_append, List.nil_append]; rfl) ?_
    repeat (go_big_quiet_step (fail))
    refine wpQuiet_nil ?_
    refine wpS_nil ?_
    refine then_normal ?_
    refine wp_ret ?_
    refine then_ret ?_
    refine ret_cell_tmp rfl HM10.out 0 rfl rfl Try.underlying37 rfl (by kernel_rfl) rfl rfl ?_
    rw [hq1.out, hq2.out]
    exact doesU_ret (post := fun u => [ringTe u noR (.bool false), gtc d S z, R]) (Mem.toRingE (p := none) (c := 0) (x := noR) (Mem.nilRow elemI (Mem.toGc (po := po) (Mem.only (M := [_, _, _]) HM10.out [1, 1, 1] rfl)))) rfl
  · have hq1 : Hid (knowsB S n = false) := Lib.hid (by unfold knowsB; simp [*])
    have hq2 : Hid (knowsR S n = noR) := Lib.hid (if_neg (by rw [hq1.out]; exact Bool.false_ne_true))
    have hn8 : Hid (0 ≤ n ∧ n < 8) := Lib.hid (of_decide_eq_true h1)
    have hi8 : Hid (n.toNat < 8) := Lib.hid (by have := hn8.out; omega)
    have gn := h1
    have gh := h2
    clear h1 h2
    refine wp_region_N [(0, 1), (1, 1), (2, 1), (3, 1), (4, 3), (5, 1), (6, 1), (7, 1), (8, 1), (9, 1), (10, 1), (11, 1), (12, 1), (13, 1), (14, 1), (15, 1)] (by kernel_rfl) ?_
    refine wpS_this [0, 1, 2, 3] rfl (by kernel_rfl) (by simp only [pickL, nthL, List.cons_append, List.nil_append]; rfl) ?_
    repeat (go_big_quiet_step (fail))
    refine wpQuiet_nil ?_
    refine wpS_does1 (i := 4) (d := some 11) (rem := [_, _, _, _]) (out := [_, _, _, _]) rfl (by rfl) rfl Try.call25 (gnode_d _) rfl HM4.out [] rfl covS_nil rfl rfl ?_
    rintro W12 hm11 -
    have HM13 := Lib.hid hm11
    clear hm11
    simp only [Act.put, List.setIfInBounds_toArray, List.set_cons_succ, List.set_cons_zero]
    refine wpS_this [5, 6, 7, 8, 9, 10, 11] rfl (by kernel_rfl) (by simp only [pickL, nthL, List.cons_append, List.nil_append]; rfl) ?_
    repeat (go_big_quiet_step (fail))
    refine wpQuiet_nil ?_
    refine wpS_read (i := 12) (d := some 19) rfl (by rfl) (run_addrHs (hn8.out) rfl rfl rfl) rfl ?_
    simp only [Act.put, List.setIfInBounds_toArray, List.set_cons_succ, List.set_cons_zero]
    refine wpS_load1 (i := 13) (d := some 20) (u := .bool _) rfl (by rfl) rfl rfl (HM13.out.sub1 1 rfl (glC_h (hi8.out))) Try.underlying4 rfl rfl ?_
    simp only [Act.put, List.setIfInBounds_toArray, List.set_cons_succ, List.set_cons_zero]
    rw [gh]
    refine wpS_this [14, 15] rfl (by kernel_rfl) (by simp only [pickL, nthL, List.cons_append, List.nil_append]; rfl) ?_
    repeat (go_big_quiet_step (fail))
    refine wpQuiet_nil ?_
    refine wpS_nil ?_
    refine then_normal ?_
    refine wp_cond_true rfl ?_
    refine wp_seq ?_
    refine wp_region_N [(0, 1), (1, 3), (2, 1)] (by kernel_rfl) ?_
    refine wpS_read (i := 0) (d := some 23) (v := rgV noR (.slice none 0 0)) rfl (by rfl) (by kernel_rfl) rfl ?_
    simp only [Act.put, List.setIfInBounds_toArray, List.set_cons_succ, List.set_cons_zero]
    refine wpS_storeA (i := 1) (L2 := [_, _, _]) (cs' := rgC (noR) (.slice none 0 0)) rfl (by rfl) rfl rfl rfl (by kernel_rfl) (rgC_one _ _ _) HM13.out 0 rfl rfl (by kernel_rfl) (by kernel_rfl) covS_nil rfl ?_
    rintro W15 hm14 -
    have HM16 := Lib.hid hm14
    clear hm14
    refine wpS_this [2] rfl (by kernel_rfl) (by simp only [pickL, nthL, List.cons_append, List.nil_append]; rfl) ?_
    repeat (go_big_quiet_step (fail))
    refine wpQuiet_nil ?_
    refine wpS_nil ?_
    refine then_normal ?_
    refine wp_ret ?_
    refine then_ret ?_
    refine ret_cell_tmp rfl HM16.out 0 rfl rfl Try.underlying37 rfl (by kernel_rfl) rfl rfl ?_
    rw [hq1.out, hq2.out]
    exact doesU_ret (post := fun u => [ringTe u noR (.bool false), gtc d S z, R]) (Mem.toRingE (p := none) (c := 0) (x := noR) (Mem.nilRow elemI (Mem.toGc (po := po) (Mem.only (M := [_, _, _]) HM16.out [1, 1, 1] rfl)))) rfl
  · have hq1 : Hid (knowsB S n = true) := Lib.hid (by unfold knowsB; rw [h1, h2]; rfl)
    have hq2 : Hid (knowsR S n = S.k n.toNat) := Lib.hid (if_pos hq1.out)
    have hn8 : Hid (0 ≤ n ∧ n < 8) := Lib.hid (of_decide_eq_true h1)
    have hi8 : Hid (n.toNat < 8) := Lib.hid (by have := hn8.out; omega)
    have gn := h1
    have gh := h2
    clear h1 h2
    refine wp_region_N [(0, 1), (1, 1), (2, 1), (3, 1), (4, 3), (5, 1), (6, 1), (7, 1), (8, 1), (9, 1), (10, 1), (11, 1), (12, 1), (13, 1), (14, 1), (15, 1)] (by kernel_rfl) ?_
    refine wpS_this [0, 1, 2, 3] rfl (by kernel_rfl) (by simp only [pickL, nthL, List.cons_append, List.nil_append]; rfl) ?_
    repeat (go_big_quiet_step (fail))
    refine wpQuiet_nil ?_
    refine wpS_does1 (i := 4) (d := some 11) (rem := [_, _, _, _]) (out := [_, _, _, _]) rfl (by rfl) rfl Try.call25 (gnode_d _) rfl HM4.out [] rfl covS_nil rfl rfl ?_
    rintro W18 hm17 -
    have HM19 := Lib.hid hm17
    clear hm17
    simp only [Act.put, List.setIfInBounds_toArray, List.set_cons_succ, List.set_cons_zero]
    refine wpS_this [5, 6, 7, 8, 9, 10, 11] rfl (by kernel_rfl) (by simp only [pickL, nthL, List.cons_append, List.nil_append]; rfl) ?_
    repeat (go_big_quiet_step (fail))
    refine wpQuiet_nil ?_
    refine wpS_read (i := 12) (d := some 19) rfl (by rfl) (run_addrHs (hn8.out) rfl rfl rfl) rfl ?_
    simp only [Act.put, List.setIfInBounds_toArray, List.set_cons_succ, List.set_cons_zero]
    refine wpS_load1 (i := 13) (d := some 20) (u := .bool _) rfl (by rfl) rfl rfl (HM19.out.sub1 1 rfl (glC_h (hi8.out))) Try.underlying4 rfl rfl ?_
    simp only [Act.put, List.setIfInBounds_toArray, List.set_cons_succ, List.set_cons_zero]
    rw [gh]
    refine wpS_this [14, 15] rfl (by kernel_rfl) (by simp only [pickL, nthL, List.cons_append, List.nil_append]; rfl) ?_
    repeat (go_big_quiet_step (fail))
    refine wpQuiet_nil ?_
    refine wpS_nil ?_
    refine then_normal ?_
    refine wp_cond_false rfl ?_
    refine wp_skip ?_
    refine then_normal ?_
    refine wp_seq ?_
    refine wp_region_N [(0, 1), (1, 1), (2, 1), (3, 1), (4, 1), (5, 1), (6, 3), (7, 3)] (by kernel_rfl) ?_
    refine wpS_this [0, 1, 2, 3] rfl (by kernel_rfl) (by simp only [pickL, nthL, List.cons_append, List.nil_append]; rfl) ?_
    repeat (go_big_quiet_step (fail))
    refine wpQuiet_nil ?_
    refine wpS_read (i := 4) (d := some 28) rfl (by rfl) (run_addrRg (hn8.out) rfl rfl rfl) rfl ?_
    simp only [Act.put, List.setIfInBounds_toArray, List.set_cons_succ, List.set_cons_zero]
    refine wpS_loadA (i := 5) (d := some 29) (cells := rgC (S.k n.toNat) (z n.toNat)) rfl (by rfl) rfl rfl (HM19.out.sub 1 rfl (glC_k (hi8.out))) Try.underlying37 rfl (by kernel_rfl) rfl ?_
    simp only [Act.put, List.setIfInBounds_toArray, List.set_cons_succ, List.set_cons_zero]
    rw [hke.out]
    refine wpS_alloc (i := 6) (dd := 6) (z := rgV noR (.slice none 0 0)) (cs := (rgC noR (.slice none 0 0)).toArray) rfl (by rfl) rfl (by kernel_rfl) rfl HM19.out covS_nil rfl ?_
    rintro b22 W21 hm20 -
    have HM23 := Lib.hid hm20
    clear hm20
    simp only [Act.put, List.setIfInBounds_toArray, List.set_cons_succ, List.set_cons_zero]
    refine wpS_storeA (i := 7) (L2 := [_, _, _, _]) (cs' := rgC ((S.k n.toNat)) (.slice pk (S.k n.toNat).p.2.2.length ck)) rfl (by rfl) rfl rfl rfl (by kernel_rfl) (rgC_one _ _ _) HM23.out 0 rfl rfl (by kernel_rfl) (by kernel_rfl) covS_nil rfl ?_
    rintro W25 hm24 -
    have HM26 := Lib.hid hm24
    clear hm24
    refine wpS_nil ?_
    refine then_normal ?_
    refine wp_seq ?_
    refine wp_region_N [(0, 1), (1, 1), (2, 1), (3, 3), (4, 1), (5, 1), (6, 3)] (by kernel_rfl) ?_
    refine wpS_this [0, 1] rfl (by kernel_rfl) (by simp only [pickL, nthL, List.cons_append, List.nil_append]; rfl) ?_
    repeat (go_big_quiet_step (fail))
    refine wpQuiet_nil ?_
    refine wpS_load1 (i := 2) (d := some 32) (u := .slice pk (S.k n.toNat).p.2.2.length ck) rfl (by rfl) rfl rfl (HM26.out.sub1 0 rfl (rgC_pl 2 _ rfl)) Try.underlying30 rfl rfl ?_
    simp only [Act.put, List.setIfInBounds_toArray, List.set_cons_succ, List.set_cons_zero]
    refine wpS_doesU1 (i := 3) (d := some 33) (rem := [_, _, _, _]) rfl (by rfl) rfl Try.call33 (clone_d R _ (S.k n.toNat).p.2.2 hkq.out (hz.out n.toNat).2) rfl HM26.out [4] rfl covS_nil (fun _ => rfl) rfl ?_
    rintro u29 W28 hm27 -
    obtain ⟨vp, vc, rfl⟩ := row_form (Mem.src hm27 0 rfl rowT_reads)
    have HM30 := Lib.hid hm27
    clear hm27
    simp only [Act.put, List.setIfInBounds_toArray, List.set_cons_succ, List.set_cons_zero]
    refine wpS_this [4, 5] rfl (by kernel_rfl) (by simp only [pickL, nthL, List.cons_append, List.nil_append]; rfl) ?_
    repeat (go_big_quiet_step (fail))
    refine wpQuiet_nil ?_
    refine wpS_store1 (i := 6) (v := .slice _ _ _) (L2 := [_, _, _, _, _]) (cs' := rgC ((S.k n.toNat)) (.slice vp (S.k n.toNat).p.2.2.length vc)) rfl (by rfl) rfl rfl rfl rfl (by kernel_rfl) rfl HM30.out 2 rfl rfl (by kernel_rfl) (rgC_setSl _ _ _) covS_nil rfl ?_
    rintro W32 hm31 -
    have HM33 := Lib.hid hm31
    clear hm31
    refine wpS_nil ?_
    refine then_normal ?_
    refine wp_seq ?_
    refine wp_region_N [(0, 1), (1, 3), (2, 1)] (by kernel_rfl) ?_
    refine wpS_loadA (i := 0) (d := some 36) (cells := rgC ((S.k n.toNat)) (.slice vp (S.k n.toNat).p.2.2.length vc)) rfl (by rfl) rfl rfl (HM33.out.sub 0 rfl (fun k u h => by rw [Nat.zero_add]; exact h)) Try.underlying37 rfl (by kernel_rfl) rfl ?_
    simp only [Act.put, List.setIfInBounds_toArray, List.set_cons_succ, List.set_cons_zero]
    refine wpS_storeA (i := 1) (L2 := [_, _, _, _, _]) (cs' := rgC ((S.k n.toNat)) (.slice vp (S.k n.toNat).p.2.2.length vc)) rfl (by rfl) rfl rfl rfl (by kernel_rfl) (rgC_one _ _ _) HM33.out 3 rfl rfl (by kernel_rfl) (by kernel_rfl) covS_nil rfl ?_
    rintro W35 hm34 -
    have HM36 := Lib.hid hm34
    clear hm34
    refine wpS_this [2] rfl (by kernel_rfl) (by simp only [pickL, nthL, List.cons_append, List.nil_append]; rfl) ?_
    repeat (go_big_quiet_step (fail))
    refine wpQuiet_nil ?_
    refine wpS_nil ?_
    refine then_normal ?_
    refine wp_ret ?_
    refine ret_cell_tmp rfl HM36.out 0 rfl rfl Try.underlying37 rfl (by kernel_rfl) rfl rfl ?_
    rw [hq1.out, hq2.out]
    exact doesU_ret (post := fun u => [ringTe u (S.k n.toNat) (.bool true), gtc d S z, R]) (Mem.toRingE (x := S.k n.toNat) (Mem.only (M := [_, _, _]) (Mem.toGc (po := po) (Mem.only (M := [_, _, _, _]) HM36.out [4, 4, 2, 2] rfl)) [1, 0, 0] rfl)) rfl

set_option maxHeartbeats 4000000 in
set_option maxRecDepth 100000 in
theorem gheard0_d (f : Int) (vr : Value) (r : Rg) : Does Try.prog 14 #[.pointer none, .int .i64 f, rgV r vr] [] (.tuple #[]) [] := by
  intro w H hp
  have HM0 := Lib.hid (mem_refl hp)
  clear hp
  go_enter Try.func14, Try.ntmps14
  refine wp_seq ?_
  refine wp_region_N [(0, 3)] (by kernel_rfl) ?_
  refine wpS_boxA (i := 0) (dd := 5) rfl (by rfl) rfl rfl HM0.out covS_nil rfl ?_
  rintro b3 W2 hm1 -
  have HM4 := Lib.hid hm1
  clear hm1
  simp only [Act.put, List.setIfInBounds_toArray, List.set_cons_succ, List.set_cons_zero]
  refine wpS_nil ?_
  refine then_normal ?_
  refine wp_seq ?_
  refine wp_seq ?_
  skip
  · refine wp_region_N [(0, 1), (1, 1), (2, 1), (3, 1), (4, 3), (5, 1), (6, 1), (7, 1), (8, 1), (9, 1), (10, 1), (11, 1), (12, 1), (13, 1), (14, 1), (15, 1), (16, 1), (17, 3), (18, 1), (19, 1)] (by kernel_rfl) ?_
    refine wpS_this [0, 1, 2, 3] rfl (by kernel_rfl) (by simp only [pickL, nthL, List.cons_append, List.nil_append]; rfl) ?_
    repeat (go_big_quiet_step (fail))
    refine wpQuiet_nil ?_
    refine wpS_skip (i := 4) (d := some 10) rfl (by rfl) rfl ?_
    simp only [Act.put, List.setIfInBounds_toArray, List.set_cons_succ, List.set_cons_zero]
    refine wpS_this [5, 6, 7, 8, 9, 10, 11] rfl (by kernel_rfl) (by simp only [pickL, nthL, List.cons_append, List.nil_append]; rfl) ?_
    repeat (go_big_quiet_step (fail))
    refine wpQuiet_nil ?_
    refine wpS_skip (i := 12) (d := some 18) rfl (by rfl) rfl ?_
    simp only [Act.put, List.setIfInBounds_toArray, List.set_cons_succ, List.set_cons_zero]
    refine wpS_this [13, 14, 15] rfl (by kernel_rfl) (by simp only [pickL, nthL, List.cons_append, List.nil_append]; rfl) ?_
    repeat (go_big_quiet_step (fail))
    refine wpQuiet_nil ?_
    refine wpS_skip (i := 16) (d := some 22) rfl (by rfl) rfl ?_
    simp only [Act.put, List.setIfInBounds_toArray, List.set_cons_succ, List.set_cons_zero]
    refine wpS_skip (i := 17) (d := some 23) rfl (by rfl) rfl ?_
    simp only [Act.put, List.setIfInBounds_toArray, List.set_cons_succ, List.set_cons_zero]
    refine wpS_this [18, 19] rfl (by kernel_rfl) (by simp only [pickL, nthL, List.cons_append, List.nil_append]; rfl) ?_
    repeat (go_big_quiet_step (fail))
    refine wpQuiet_nil ?_
    refine wpS_nil ?_
    refine then_normal ?_
    refine wp_cond_true rfl ?_
    refine wp_ret ?_
    refine then_ret ?_
    refine bodyPost_ret (results_none rfl _ _ _) rfl ?_
    exact does_ret (Mem.only (M := []) HM4.out [] rfl) rfl rfl

set_option maxHeartbeats 4000000 in
set_option maxRecDepth 100000 in
theorem gturn0_d (vr : Value) (r : Rg) (vp : Value) (draw : Int) : Does Try.prog 12 #[.pointer none, rgV r vr, vp, .int .u64 draw] [] (.int .i64 (-1)) [] := by
  intro w H hp
  have HM0 := Lib.hid (mem_refl hp)
  clear hp
  go_enter Try.func12, Try.ntmps12
  refine wp_seq ?_
  refine wp_region_N [(0, 3), (1, 1)] (by kernel_rfl) ?_
  refine wpS_boxA (i := 0) (dd := 5) rfl (by rfl) rfl rfl HM0.out covS_nil rfl ?_
  rintro b3 W2 hm1 -
  have HM4 := Lib.hid hm1
  clear hm1
  simp only [Act.put, List.setIfInBounds_toArray, List.set_cons_succ, List.set_cons_zero]
  refine wpS_this [1] rfl (by kernel_rfl) (by simp only [pickL, nthL, List.cons_append, List.nil_append]; rfl) ?_
  repeat (go_big_quiet_step (fail))
  refine wpQuiet_nil ?_
  refine wpS_nil ?_
  refine then_normal ?_
  refine wp_seq ?_
  refine wp_seq ?_
  skip
  · refine wp_region_N [(0, 1), (1, 1), (2, 1), (3, 1), (4, 1), (5, 1), (6, 1), (7, 1), (8, 1)] (by kernel_rfl) ?_
    refine wpS_this [0, 1, 2, 3, 4, 5] rfl (by kernel_rfl) (by simp only [pickL, nthL, List.cons_append, List.nil_append]; rfl) ?_
    repeat (go_big_quiet_step (fail))
    refine wpQuiet_nil ?_
    refine wpS_skip (i := 6) (d := some 16) rfl (by rfl) rfl ?_
    simp only [Act.put, List.setIfInBounds_toArray, List.set_cons_succ, List.set_cons_zero]
    refine wpS_this [7, 8] rfl (by kernel_rfl) (by simp only [pickL, nthL, List.cons_append, List.nil_append]; rfl) ?_
    repeat (go_big_quiet_step (fail))
    refine wpQuiet_nil ?_
    refine wpS_nil ?_
    refine then_normal ?_
    refine wp_cond_true rfl ?_
    refine wp_seq ?_
    refine wp_region_N [(0, 1)] (by kernel_rfl) ?_
    refine wpS_this [0] rfl (by kernel_rfl) (by simp only [pickL, nthL, List.cons_append, List.nil_append]; rfl) ?_
    repeat (go_big_quiet_step (fail))
    refine wpQuiet_nil ?_
    refine wpS_nil ?_
    refine then_normal ?_
    refine wp_ret ?_
    refine then_ret ?_
    refine bodyPost_ret (results_tmp rfl _ _ _) rfl ?_
    exact does_ret (Mem.only (M := []) HM4.out [] rfl) rfl rfl

set_option maxHeartbeats 4000000 in
set_option maxRecDepth 100000 in
theorem gknows0_d (n : Int) : Does Try.prog 16 #[.pointer none, .int .i64 n] [] (.tuple #[rgV noR (.slice none 0 0), .bool false]) [] := by
  intro w H hp
  have HM0 := Lib.hid (mem_refl hp)
  clear hp
  go_enter Try.func16, Try.ntmps16
  refine wp_seq ?_
  refine wp_region_N [(0, 3), (1, 1)] (by kernel_rfl) ?_
  refine wpS_alloc (i := 0) (dd := 4) (z := rgV noR (.slice none 0 0)) (cs := (rgC noR (.slice none 0 0)).toArray) rfl (by rfl) rfl (by kernel_rfl) rfl HM0.out covS_nil rfl ?_
  rintro b3 W2 hm1 -
  have HM4 := Lib.hid hm1
  clear hm1
  simp only [Act.put, List.setIfInBounds_toArray, List.set_cons_succ, List.set_cons_zero]
  refine wpS_this [1] rfl (by kernel_rfl) (by simp only [pickL, nthL, List.cons_append, List.nil_append]; rfl) ?_
  repeat (go_big_quiet_step (fail))
  refine wpQuiet_nil ?_
  refine wpS_nil ?_
  refine then_normal ?_
  refine wp_seq ?_
  refine wp_seq ?_
  skip
  · refine wp_region_N [(0, 1), (1, 1), (2, 1), (3, 1), (4, 3), (5, 1), (6, 1), (7, 1), (8, 1), (9, 1), (10, 1), (11, 1), (12, 1), (13, 1), (14, 1), (15, 1)] (by kernel_rfl) ?_
    refine wpS_this [0, 1, 2, 3] rfl (by kernel_rfl) (by simp only [pickL, nthL, List.cons_append, List.nil_append]; rfl) ?_
    repeat (go_big_quiet_step (fail))
    refine wpQuiet_nil ?_
    refine wpS_skip (i := 4) (d := some 11) rfl (by rfl) rfl ?_
    simp only [Act.put, List.setIfInBounds_toArray, List.set_cons_succ, List.set_cons_zero]
    refine wpS_this [5, 6, 7, 8, 9, 10, 11] rfl (by kernel_rfl) (by simp only [pickL, nthL, List.cons_append, List.nil_append]; rfl) ?_
    repeat (go_big_quiet_step (fail))
    refine wpQuiet_nil ?_
    refine wpS_skip (i := 12) (d := some 19) rfl (by rfl) rfl ?_
    simp only [Act.put, List.setIfInBounds_toArray, List.set_cons_succ, List.set_cons_zero]
    refine wpS_skip (i := 13) (d := some 20) rfl (by rfl) rfl ?_
    simp only [Act.put, List.setIfInBounds_toArray, List.set_cons_succ, List.set_cons_zero]
    refine wpS_this [14, 15] rfl (by kernel_rfl) (by simp only [pickL, nthL, List.cons_append, List.nil_append]; rfl) ?_
    repeat (go_big_quiet_step (fail))
    refine wpQuiet_nil ?_
    refine wpS_nil ?_
    refine then_normal ?_
    refine wp_cond_true rfl ?_
    refine wp_seq ?_
    refine wp_region_N [(0, 1), (1, 3), (2, 1)] (by kernel_rfl) ?_
    refine wpS_read (i := 0) (d := some 23) (v := rgV noR (.slice none 0 0)) rfl (by rfl) (by kernel_rfl) rfl ?_
    simp only [Act.put, List.setIfInBounds_toArray, List.set_cons_succ, List.set_cons_zero]
    refine wpS_storeA (i := 1) (L2 := []) (cs' := rgC (noR) (.slice none 0 0)) rfl (by rfl) rfl rfl rfl (by kernel_rfl) (rgC_one _ _ _) HM4.out 0 rfl rfl (by kernel_rfl) (by kernel_rfl) covS_nil rfl ?_
    rintro W6 hm5 -
    have HM7 := Lib.hid hm5
    clear hm5
    refine wpS_this [2] rfl (by kernel_rfl) (by simp only [pickL, nthL, List.cons_append, List.nil_append]; rfl) ?_
    repeat (go_big_quiet_step (fail))
    refine wpQuiet_nil ?_
    refine wpS_nil ?_
    refine then_normal ?_
    refine wp_ret ?_
    refine then_ret ?_
    refine ret_cell_tmp rfl HM7.out 0 rfl rfl Try.underlying37 rfl (by kernel_rfl) rfl rfl ?_
    exact does_ret (Mem.only (M := []) HM7.out [] rfl) rfl rfl

theorem gt_open {d : Nat} {S : Tl} {B P : At} {W : World} {H : Nat → Prop} (h : stars [gtT d S B, P] W H) : ∃ z l, KnowsOf (listT (B :: l)) S.k z ∧ stars [gtc d S z, listT (B :: l), P] W H := by
  obtain ⟨H1, H2, ⟨x, H3, H4, ⟨hp, he3⟩, h4, _, he4⟩, h2, ha, he⟩ := h
  have h1 : ∀ k, H1 k ↔ H4 k := fun k => (he4 k).trans ⟨fun q => q.elim (fun q => (he3 k q).elim) id, .inr⟩
  refine ⟨x.1, x.2, hp, stars_append (l := [_, _]) (m := [_]) ⟨H4, H2, h4, h2, fun k q => ha k ((h1 k).2 q), fun k => (he k).trans (or_congr (h1 k) Iff.rfl)⟩⟩
theorem gt_close {d : Nat} {S : Tl} {B P : At} {z : Nat → Value} {l : List At} (hz : KnowsOf (listT (B :: l)) S.k z) {W : World} {H : Nat → Prop} (h : stars [gtc d S z, listT (B :: l), P] W H) : stars [gtT d S B, P] W H := by
  obtain ⟨H1, H2, h1, h2, ha, he⟩ := stars_split (l := [gtc d S z, listT (B :: l)]) (m := [P]) h
  exact ⟨H1, H2, ⟨(z, l), fun _ => False, H1, ⟨hz, fun _ h => h⟩, h1, fun _ h => h.elim, fun _ => ⟨.inr, fun h => h.elim (fun h => h.elim) id⟩⟩, h2, ha, he⟩
/-- A turn, the peers read of what lies beside. -/
theorem gturnP_d (d : Nat) (S : Tl) (B P : At) (vr : Value) (r : Rg) (hr : Reads elemI B vr r.p.2.2) (lr : r.p.2.2.length ≤ 1000) (vp : Value) (peers : List Int) (hp : Reads elemI P vp peers) (hpl : peers.length ≤ 1000) (draw : Int) (h0 : 0 ≤ draw) (h1 : draw < 18446744073709551616) : Does Try.prog 12 #[.pointer (some ⟨d, 0, none⟩), rgV r vr, vp, .int .u64 draw] [gtT d S B, P] (.int .i64 (turnA S r peers draw)) [gtT d (turnT S peers draw) B, P] := fun W H hs => by
  obtain ⟨z, l, hz, h⟩ := gt_open hs
  have hc := gturn_d d S z (listT [listT (B :: l), P]) (fun i => ⟨srcL 0 rfl (hz i).1, (hz i).2⟩) vr r (srcL 0 rfl (reads_first hr)) lr vp peers (srcL 1 rfl hp) hpl draw h0 h1
  refine (hc W H (star_mono (fun _ h => h) (fun _ h => star_comm (starl_emp h)) h)).mono fun e W' ⟨he, hq⟩ => ⟨he, hq.mono fun _ h => gt_close (S := turnT S peers draw) hz ?_⟩
  exact star_mono (fun _ h => h) (fun _ h => emp_right h) h
section
variable {d : Nat} {S : Tl} {B : At} {W : World} {H : Nat → Prop} {l L : List At} {H0 : Nat → Prop} {w : World}
theorem gt_base (h : (gtT d S B).p W H) : ∃ H', B.p W H' := by
  obtain ⟨x, _, _, _, ⟨_, _, _, ⟨_, _, ⟨H5, _, h5, _⟩, _⟩, _⟩, _⟩ := h
  exact ⟨H5, h5⟩
theorem gt_src {v : Value} {xs : List Int} (h : Reads elemI B v xs) : Reads elemI (gtT d S B) v xs := fun W H hs => by
  obtain ⟨H', h'⟩ := gt_base hs
  exact h W H' h'
theorem gt_rowE {α : Type} {E : Elem Try.prog α} {v : Value} {xs : List α} (h : ∀ W H, B.p W H → RowAt E W v xs) : ∀ W H, (gtT d S B).p W H → RowAt E W v xs := fun W H hs => by
  obtain ⟨H', h'⟩ := gt_base hs
  exact h W H' h'
theorem Mem.outOf (h : Mem (listT (B :: l) :: L) H0 w W) : Mem (B :: listT l :: L) H0 w W := SEnd.mono h fun _ h => star_assoc h
end
theorem knowsR_len {R : At} {S : Tl} {z : Nat → Value} (h : KnowsOf R S.k z) (n : Int) : (knowsR S n).p.2.2.length ≤ 1000 := by
  unfold knowsR
  split
  · exact (h _).2
  · exact Nat.zero_le _
theorem Mem.known {S : Tl} {n : Int} {L : List At} {H0 : Nat → Prop} {w W : World} {u : Value} {r : Rg} {b : Bool} (hr : knowsR S n = r) (hb : knowsB S n = b) (h : Mem (ringTe u (knowsR S n) (.bool (knowsB S n)) :: L) H0 w W) : ∃ p c, u = .tuple #[rgV r (.slice p r.p.2.2.length c), .bool b] ∧ Mem (rowT elemI (.slice p r.p.2.2.length c) r.p.2.2 :: L) H0 w W := by
  subst hr hb
  exact Mem.ringE rfl h
end Go.Proofs.Ytnkchmafofpimaa
