/- The landed giver: its cells; what is out, a heap. -/
import Derived.Test.YtcchkkdbagpgjaaGreatQ18
import Derived.Test.YtcchkkdbagpgjaaGreatFdX
import Derived.Test.YtcchkkdbagpgjaaGreatPH
import Derived.Test.YtcchkkdbagpgjaaGreatPA
namespace Go.Proofs.YtcchkkdbagpgjaaGreat
open Go Go.RowKit Go.BigFrame
structure Pz where
 b : Nat
 o : Ot
 p : Option Addr
 c : Nat
def Pz.sv (x : Pz) : Value := .slice x.p x.o.b.v.length x.c
def pcC (o : Ot) (sv : Value) : List Value := .int .i64 o.seq :: (prC o.key o.b.k sv ++ [.int .i64 o.at_])
abbrev pcV (o : Ot) (sv : Value) : Value := .agg (pcC o sv).toArray
section
variable {o : Ot} {sv : Value}
theorem pcC_seq : (pcC o sv)[0]? = some (.int .i64 o.seq) := rfl
theorem pcC_key : (pcC o sv)[1]? = some (.string o.key) := rfl
theorem pcC_at : (pcC o sv)[11]? = some (.int .i64 o.at_) := by kernel_rfl
theorem pcC_bag : ∀ k u, (bgC o.b.k sv)[k]? = some u → (pcC o sv)[2 + k]? = some u := fun _ _ h => sub_app [_, _] _ _ h
theorem pcC_setAt (t : Int) : (pcC o sv).set 11 (.int .i64 t) = pcC ⟨o.seq, o.key, o.b, t⟩ sv := by kernel_rfl
end
def pcT (x : Pz) : At := boxT x.b (.cells (pcC x.o x.sv).toArray 123 (0, 0))
def pcsT (l : List Pz) : At := listT (l.map pcT)
theorem stars_perm {l m : List At} (hp : l.Perm m) : ∀ {W : World} {H : Nat → Prop}, stars l W H → stars m W H := by
 induction hp with
 | nil => exact fun h => h
 | cons x _ ih => exact fun h => star_mono (fun _ h => h) (fun _ h => ih h) h
 | swap x y l => exact fun h => star_swap h
 | trans _ _ ih1 ih2 => exact fun h => ih2 (ih1 h)
def elemPq : Elem Tryz.prog (Option Nat) where
 enc x := [.pointer (x.map fun b => ⟨b, 0, none⟩)]
 k := 1
 pos := by decide
 len _ := rfl
 one x u hu := by
  simp only [List.mem_cons, List.not_mem_nil, or_false] at hu
  subst hu
  cases x <;> rfl
 t := 124
 sl := 109
 under := Tryz.underlying109
 z := .pointer none
 bytes := 8
 bpos := by decide
 info := by kernel_rfl
 zs := by kernel_rfl
def elemPr : Elem Tryz.prog Nat where
 enc b := [.pointer (some ⟨b, 0, none⟩)]
 k := 1
 pos := by decide
 len _ := rfl
 one x u hu := by
  simp only [List.mem_cons, List.not_mem_nil, or_false] at hu
  subst hu
  rfl
 t := 124
 sl := 108
 under := Tryz.underlying108
 z := .pointer none
 bytes := 8
 bpos := by decide
 info := by kernel_rfl
 zs := by kernel_rfl
def bksP (l : List Pz) : List (Option Nat) := l.map fun x => some x.b
def bksR (l : List Pz) : List Nat := l.map fun x => x.b
theorem bksP_at {l : List Pz} {i : Nat} {x : Pz} (h : l[i]? = some x) : (bksP l)[i]? = some (some x.b) := by
 unfold bksP
 rw [List.getElem?_map, h]
 rfl
theorem bksR_at {l : List Pz} {i : Nat} {x : Pz} (h : l[i]? = some x) : (bksR l)[i]? = some x.b := by
 unfold bksR
 rw [List.getElem?_map, h]
 rfl
theorem bksP_len (l : List Pz) : (bksP l).length = l.length := List.length_map _
theorem bksR_len (l : List Pz) : (bksR l).length = l.length := List.length_map _
theorem bksP_snoc (l : List Pz) (x : Pz) : bksP l ++ [some x.b] = bksP (l ++ [x]) := by
 unfold bksP
 rw [List.map_append]
 rfl
theorem bksR_snoc (l : List Pz) (x : Pz) : bksR l ++ [x.b] = bksR (l ++ [x]) := by
 unfold bksR
 rw [List.map_append]
 rfl
theorem bksP_swap {l : List Pz} {i j : Nat} {x y : Pz} (hx : l[i]? = some x) (hy : l[j]? = some y) : swapL (bksP l) i j = bksP (swapL l i j) := by
 rw [swapL_some (bksP_at hx) (bksP_at hy), swapL_some hx hy]
 unfold bksP
 rw [List.map_set, List.map_set]
def lessP (x y : Pz) : Bool := decide (x.o.seq < y.o.seq)
theorem lessP_ordered : Ordered lessP := ⟨fun x y h => decide_eq_false (by have := of_decide_eq_true h; omega), fun x y z h1 h2 => decide_eq_false (by have := of_decide_eq_false h1; have := of_decide_eq_false h2; omega)⟩
abbrev gvB (g c : Nat) (G : Gv) (sl : Value) : At := boxT g (.cells #[.int .i64 G.self, .int .i64 G.part, .int .i64 G.epoch, .int .i64 G.dst, .pointer (some ⟨c, 0, none⟩), sl, .int .i64 G.seq, .int .i64 G.ticks, .bool G.ends] 111 (0, 0))
def gqT (g c : Nat) (G : Gv) (xs : List Pz) : At := exT fun s : Option Addr × Nat => [gvB g c G (.slice s.1 xs.length s.2), rowT elemPq (.slice s.1 xs.length s.2) (bksP xs)]
def rqT (r : Nat) (xs : List Pz) : At := exT fun s : Option Addr × Nat => [boxT r (.cells #[.slice s.1 xs.length s.2] 109 (0, 0)), rowT elemPq (.slice s.1 xs.length s.2) (bksP xs)]
def ghT (g c : Nat) (G : Gv) (D : List Pz) : At := exT fun xs : List Pz => [prT (IsHeap lessP xs.length xs ∧ xs.Perm D), gqT g c G xs]
def rhT (r : Nat) (D : List Pz) : At := exT fun xs : List Pz => [prT (IsHeap lessP xs.length xs ∧ xs.Perm D), rqT r xs]
section
variable {L : List At} {H0 : Nat → Prop} {w W : World} {g c r : Nat} {G : Gv} {xs D l m : List Pz} {x : Pz}
theorem Mem.pcPerm (hp : l.Perm m) (h : Mem (pcsT l :: L) H0 w W) : Mem (pcsT m :: L) H0 w W := h.as fun _ h => stars_perm (hp.map pcT) h
theorem Mem.pcOpen (hp : l.Perm (x :: m)) (h : Mem (pcsT l :: L) H0 w W) : Mem (pcT x :: pcsT m :: L) H0 w W := SEnd.mono (h.pcPerm hp) fun _ h => star_assoc h
theorem Mem.pcClose (h : Mem (pcT x :: pcsT m :: L) H0 w W) : Mem (pcsT (x :: m) :: L) H0 w W := SEnd.mono h fun _ h => star_assoc' h
theorem Mem.pcNil (h : Mem L H0 w W) : Mem (pcsT [] :: L) H0 w W := SEnd.mono h fun _ h => starl_emp h
theorem Mem.pcCell (h : Mem L H0 w W) (i : Nat) (hi : L[i]? = some (pcsT l)) (hx : x ∈ l) (j : Nat) {u : Value} (hu : (pcC x.o x.sv)[j]? = some u) : W.cell? ⟨x.b, j, none⟩ = some u := by
 have h1 : W.heap[x.b]? = some (.cells (pcC x.o x.sv).toArray 123 (0, 0)) := h.have i hi fun H hs => by
  obtain ⟨k, hk⟩ := List.mem_iff_getElem?.1 hx
  obtain ⟨H1, H2, h1, _⟩ := stars_pick (l.map pcT) k (pcT x) (by rw [List.getElem?_map, hk]; rfl) hs
  exact h1.1
 have h2 : W.cell? ⟨x.b, j, none⟩ = (pcC x.o x.sv)[j]? := by simp [World.cell?, h1]
 rw [h2, hu]
theorem Mem.gq (h : Mem (gqT g c G xs :: L) H0 w W) : ∃ p n, Mem (gvB g c G (.slice p xs.length n) :: rowT elemPq (.slice p xs.length n) (bksP xs) :: L) H0 w W := by
 obtain ⟨s, h⟩ := Mem.ex h
 exact ⟨s.1, s.2, h⟩
theorem Mem.toGq {p : Option Addr} {n k : Nat} (hk : xs.length = k) (h : Mem (gvB g c G (.slice p k n) :: rowT elemPq (.slice p k n) (bksP xs) :: L) H0 w W) : Mem (gqT g c G xs :: L) H0 w W := by
 subst hk
 exact Mem.addEx (p, n) h
theorem Mem.rq (h : Mem (rqT r xs :: L) H0 w W) : ∃ p n, Mem (boxT r (.cells #[.slice p xs.length n] 109 (0, 0)) :: rowT elemPq (.slice p xs.length n) (bksP xs) :: L) H0 w W := by
 obtain ⟨s, h⟩ := Mem.ex h
 exact ⟨s.1, s.2, h⟩
theorem Mem.toRq {p : Option Addr} {n k : Nat} (hk : xs.length = k) (h : Mem (boxT r (.cells #[.slice p k n] 109 (0, 0)) :: rowT elemPq (.slice p k n) (bksP xs) :: L) H0 w W) : Mem (rqT r xs :: L) H0 w W := by
 subst hk
 exact Mem.addEx (p, n) h
theorem Mem.gh (h : Mem (ghT g c G D :: L) H0 w W) : ∃ xs, IsHeap lessP xs.length xs ∧ xs.Perm D ∧ Mem (gqT g c G xs :: L) H0 w W := by
 obtain ⟨s, h⟩ := Mem.ex h
 obtain ⟨hu, h⟩ := Mem.pr h
 exact ⟨s, hu.1, hu.2, h⟩
theorem Mem.toGh (h1 : IsHeap lessP xs.length xs) (h2 : xs.Perm D) (h : Mem (gqT g c G xs :: L) H0 w W) : Mem (ghT g c G D :: L) H0 w W := Mem.addEx xs (Mem.addPr ⟨h1, h2⟩ h)
theorem Mem.rh (h : Mem (rhT r D :: L) H0 w W) : ∃ xs, IsHeap lessP xs.length xs ∧ xs.Perm D ∧ Mem (rqT r xs :: L) H0 w W := by
 obtain ⟨s, h⟩ := Mem.ex h
 obtain ⟨hu, h⟩ := Mem.pr h
 exact ⟨s, hu.1, hu.2, h⟩
theorem Mem.toRh (h1 : IsHeap lessP xs.length xs) (h2 : xs.Perm D) (h : Mem (rqT r xs :: L) H0 w W) : Mem (rhT r D :: L) H0 w W := Mem.addEx xs (Mem.addPr ⟨h1, h2⟩ h)
end
def encP (b : Nat) : Value := .iface 124 (.pointer (some ⟨b, 0, none⟩))
abbrev gpV (g : Nat) : Value := .iface 126 (.pointer (some ⟨g, 5, none⟩))
abbrev rpV (r : Nat) : Value := .iface 126 (.pointer (some ⟨r, 0, none⟩))
@[simp, go_sem] theorem run_assert_pc (b : Nat) (w : World) : (Instr.typeAssert (.iface 124 (.pointer (some ⟨b, 0, none⟩))) 20 124 false).run Tryz.prog w = .ok (.pointer (some ⟨b, 0, none⟩)) w := by
 simp [Instr.typeAssert, go_sem]
theorem run_asP {W : World} {a : Act} {o : Oper} {x : Operand} {b : Nat} (ho : o.op = .typeAssert x 20 124 false) (hx : a.eval x = encP b) : (execOp a.eval o).run Tryz.prog W = .ok (.value (.pointer (some ⟨b, 0, none⟩))) W := by
 unfold execOp
 simp only [ho, hx, encP]
 simp [go_sem]
set_option maxHeartbeats 4000000 in
set_option maxRecDepth 100000 in
theorem plen_d (p : Option Addr) (n m : Nat) : Does Tryz.prog 220 #[.slice p n m] [] (.int .i64 (n : Int)) [] := by
 intro w H hp
 have HM0 := Lib.hid (mem_refl hp)
 clear hp
 go_enter Tryz.func220, Tryz.ntmps220
 refine wp_seq (wQ ?_)
 refine wp_seq (wQ ?_)
 refine wp_ret (bodyPost_ret (results_tmp rfl _ _ _) rfl ?_)
 exact does_ret (Mem.only (M := []) HM0.out [] rfl) rfl rfl
set_option maxHeartbeats 4000000 in
set_option maxRecDepth 100000 in
theorem pless_d (p : Option Addr) (m : Nat) (xs Y : List Pz) (i j : Nat) (x y : Pz) (hx' : xs[i]? = some x) (hy' : xs[j]? = some y) (hxY : x ∈ Y) (hyY : y ∈ Y) : Does Tryz.prog 221 #[.slice p xs.length m, .int .i64 (i : Int), .int .i64 (j : Int)] [rowT elemPq (.slice p xs.length m) (bksP xs), pcsT Y] (.bool (lessP x y)) [rowT elemPq (.slice p xs.length m) (bksP xs), pcsT Y] := by
 intro w H hp
 have HM0 := Lib.hid (mem_refl hp)
 clear hp
 have hx := Lib.hid hx'
 clear hx'
 have hy := Lib.hid hy'
 clear hy'
 go_enter Tryz.func221, Tryz.ntmps221
 refine wp_seq (wQ ?_)
 refine wp_seq ?_
 refine wp_region_M (fun k => k ∈ ([] : List Nat)) [(0, 1), (1, 1), (2, 1), (3, 1), (4, 1), (5, 1), (6, 1), (7, 1), (8, 1), (9, 1), (10, 1), (11, 1), (12, 1), (13, 1), (14, 1), (15, 1)] (by kernel_rfl) (by kernel_rfl) HM0.out ?_
 intro W1 hm2
 have HM3 := Lib.hid hm2
 clear hm2
 refine wT [0, 1] ?_
 refine wI elemPq 2 (rowAt_src (Mem.src HM3.out 0 rfl rowT_reads)) (bksP_at hx.out) fun eb4 eo5 hc6 => ?_
 refine wM 3 (.pointer (some ⟨x.b, 0, none⟩)) (hc6 0 _ rfl) Tryz.underlying124 ?_
 refine wT [4, 5] ?_
 refine wM 6 (.int .i64 x.o.seq) (Mem.pcCell HM3.out 1 rfl (hxY) 0 pcC_seq) Tryz.underlying3 ?_
 refine wT [7, 8] ?_
 refine wI elemPq 9 (rowAt_src (Mem.src HM3.out 0 rfl rowT_reads)) (bksP_at hy.out) fun eb7 eo8 hc9 => ?_
 refine wM 10 (.pointer (some ⟨y.b, 0, none⟩)) (hc9 0 _ rfl) Tryz.underlying124 ?_
 refine wT [11, 12] ?_
 refine wM 13 (.int .i64 y.o.seq) (Mem.pcCell HM3.out 1 rfl (hyY) 0 pcC_seq) Tryz.underlying3 ?_
 refine wT [14, 15] ?_
 refine wZ (wp_ret (bodyPost_ret (results_tmp rfl _ _ _) rfl ?_))
 exact does_ret (Mem.only (M := [_, _]) HM3.out [0, 0] rfl) rfl rfl
set_option maxHeartbeats 4000000 in
set_option maxRecDepth 100000 in
theorem pswap_d (p : Option Addr) (m : Nat) (xs : List Pz) (i j : Nat) (x y : Pz) (hx' : xs[i]? = some x) (hy' : xs[j]? = some y) : Does Tryz.prog 222 #[.slice p xs.length m, .int .i64 (i : Int), .int .i64 (j : Int)] [rowT elemPq (.slice p xs.length m) (bksP xs)] (.tuple #[]) [rowT elemPq (.slice p xs.length m) (bksP (swapL xs i j))] := by
 intro w H hp
 have HM0 := Lib.hid (mem_refl hp)
 clear hp
 have hil := (List.getElem?_eq_some_iff.1 hx').1
 have hjl := (List.getElem?_eq_some_iff.1 hy').1
 obtain ⟨z, hz'⟩ : ∃ z, ((bksP xs).set i (some y.b))[j]? = some z := ⟨_, List.getElem?_eq_getElem (by rw [List.length_set, bksP_len]; exact hjl)⟩
 have hx := Lib.hid hx'
 clear hx'
 have hy := Lib.hid hy'
 clear hy'
 have hz := Lib.hid hz'
 clear hz'
 obtain ⟨g, rfl⟩ := Mem.rowPtr HM0.out (k := 0) rfl (by rw [bksP_len]; omega)
 go_enter Tryz.func222, Tryz.ntmps222
 refine wp_region_M (fun k => k ∈ ([] : List Nat)) [(0, 1), (1, 1), (2, 0), (3, 0), (4, 1), (5, 1), (6, 1), (7, 1), (8, 1), (9, 1), (10, 1), (11, 1), (12, 1), (13, 3), (14, 1), (15, 3)] (by kernel_rfl) (by kernel_rfl) HM0.out ?_
 intro W1 hm2
 have HM3 := Lib.hid hm2
 clear hm2
 refine wT [0, 1] ?_
 refine wA [2, 3] ?_
 refine wT [4, 5] ?_
 refine wI elemPq 6 (rowAt_src (Mem.src HM3.out 0 rfl rowT_reads)) (bksP_at hy.out) fun eb4 eo5 hc6 => ?_
 refine wM 7 (.pointer (some ⟨y.b, 0, none⟩)) (hc6 0 _ rfl) Tryz.underlying124 ?_
 refine wT [8, 9] ?_
 refine wI elemPq 10 (rowAt_src (Mem.src HM3.out 0 rfl rowT_reads)) (bksP_at hx.out) fun eb7 eo8 hc9 => ?_
 refine wM 11 (.pointer (some ⟨x.b, 0, none⟩)) (hc9 0 _ rfl) Tryz.underlying124 ?_
 refine wpS_addrE (E := elemPq) (i := 12) (d := some 18) (j := i) rfl (by rfl) rfl rfl rfl HM3.out 0 rfl (by rw [bksP_len]; exact hil) rfl ?_
 rintro _ ⟨⟩
 simp only [Act.put, List.setIfInBounds_toArray, List.set_cons_succ, List.set_cons_zero]
 refine wpS_setE (E := elemPq) (i := 13) (j := i) (q := 0) (v := .pointer (some ⟨y.b, 0, none⟩)) (x0 := some x.b) (y0 := some y.b) (L2 := []) rfl (by rfl) rfl rfl rfl rfl (by kernel_rfl) rfl HM3.out 0 rfl rfl rfl (by decide) (bksP_at hx.out) rfl covS_nil rfl ?_
 rintro W11 hm10 -
 have HM12 := Lib.hid hm10
 clear hm10
 refine wpS_addrE (E := elemPq) (i := 14) (d := some 19) (j := j) rfl (by rfl) rfl rfl rfl HM12.out 0 rfl (by rw [List.length_set, bksP_len]; exact hjl) rfl ?_
 rintro _ ⟨⟩
 simp only [Act.put, List.setIfInBounds_toArray, List.set_cons_succ, List.set_cons_zero]
 refine wpS_setE (E := elemPq) (i := 15) (j := j) (q := 0) (v := .pointer (some ⟨x.b, 0, none⟩)) (x0 := z) (y0 := some x.b) (L2 := []) rfl (by rfl) rfl rfl rfl rfl (by kernel_rfl) rfl HM12.out 0 rfl rfl rfl (by decide) (hz.out) rfl covS_nil rfl ?_
 rintro W14 hm13 -
 have HM15 := Lib.hid hm13
 clear hm13
 refine wpS_nil ?_
 refine bodyPost_end (results_none rfl _ _ _) rfl ?_
 have hq := (Mem.only (M := [_]) HM15.out [0] rfl)
 rw [← swapL_some (bksP_at hx.out) (bksP_at hy.out), bksP_swap hx.out hy.out] at hq
 exact does_ret hq rfl rfl
set_option maxHeartbeats 4000000 in
set_option maxRecDepth 100000 in
theorem ppush_d (g c : Nat) (G : Gv) (xs : List Pz) (x : Pz) (hl : xs.length < 1000) : Does Tryz.prog 224 #[.pointer (some ⟨g, 5, none⟩), encP x.b] [gqT g c G xs] (.tuple #[]) [gqT g c G (xs ++ [x])] := by
 intro w H hp
 have HM0 := Lib.hid (mem_refl hp)
 clear hp
 obtain ⟨p, m, HM1'⟩ := Mem.gq HM0.out
 clear HM0
 have HM0 := Lib.hid HM1'
 clear HM1'
 go_enter Tryz.func224, Tryz.ntmps224
 refine wp_region_M (fun k => k ∈ ([g] : List Nat)) [(0, 0), (1, 0), (2, 0), (3, 2), (4, 1), (5, 3), (6, 3), (7, 3), (8, 1), (9, 4)] (by kernel_rfl) (by kernel_rfl) HM0.out ?_
 intro W1 hm2
 have HM3 := Lib.hid hm2
 clear hm2
 refine wA [0, 1, 2] ?_
 have Cbx := Mem.cell HM3.out 0 rfl
 refine wS [3] ?_
 clear Cbx
 refine wT [4] ?_
 refine wpS_still (i := 5) (d := some 9) (v := .pointer (some ⟨x.b, 0, none⟩)) rfl (by rfl) (run_asP rfl rfl) rfl ?_
 simp only [Act.put, List.setIfInBounds_toArray, List.set_cons_succ, List.set_cons_zero]
 refine wpS_build1 elemPq (i := 6) (dd := 10) (y := some x.b) rfl (by rfl) rfl rfl rfl (by decide) HM3.out (covS_box 0 rfl covS_nil) rfl ?_
 rintro b7 W8 hm9 hg10
 have HM11 := Lib.hid hm9
 clear hm9
 simp only [Act.put, List.setIfInBounds_toArray, List.set_cons_succ, List.set_cons_zero]
 refine wpS_append (E := elemPq) (i := 7) (d := some 11) (L2 := [_, _]) rfl (by rfl) rfl HM11.out 2 rfl rfl (HM11.out.src 0 rfl rowT_reads) rfl (by rw [bksP_len]; show (_ + 1) * 8 ≤ 140737488355328; omega) rfl (covS_box 1 rfl covS_nil) rfl ?_
 rintro u15 W16 hm17 hg18
 have HM19 := Lib.hid hm17
 clear hm17
 simp only [Act.put, List.setIfInBounds_toArray, List.set_cons_succ, List.set_cons_zero]
 obtain ⟨up, uc, hup⟩ := row_form (Mem.src HM19.out 0 rfl rowT_reads)
 subst hup
 refine wT [8] ?_
 refine wpS_store14 (i := 9) (L2 := [_, _]) (cs' := [.int .i64 G.self, .int .i64 G.part, .int .i64 G.epoch, .int .i64 G.dst, .pointer (some ⟨c, 0, none⟩), .slice up (bksP xs ++ [some x.b]).length uc, .int .i64 G.seq, .int .i64 G.ticks, .bool G.ends]) rfl (by rfl) rfl rfl rfl rfl (by kernel_rfl) rfl HM19.out 2 rfl rfl rfl rfl  rfl ?_
 rintro W21 hm20
 have HM23 := Lib.hid hm20
 clear hm20
 refine wpS_nil ?_
 refine bodyPost_end (results_none rfl _ _ _) rfl ?_
 have hq := (Mem.only (M := [_, _]) HM23.out [0, 0] rfl)
 rw [bksP_snoc] at hq
 exact does_ret (Mem.toGq (bksP_len _).symm hq) rfl rfl
theorem set_last (xs : List Pz) (x : Pz) (z : Option Nat) : (bksP (xs ++ [x])).set xs.length z = bksP xs ++ [z] := by
 rw [← bksP_snoc, List.set_append_right _ _ (by rw [bksP_len]; exact Nat.le_refl _), bksP_len, Nat.sub_self]
 rfl
set_option maxHeartbeats 4000000 in
set_option maxRecDepth 100000 in
theorem ppopg_d (g c : Nat) (G : Gv) (xs : List Pz) (x : Pz) (hl : xs.length < 1000) : Does Tryz.prog 223 #[.pointer (some ⟨g, 5, none⟩)] [gqT g c G (xs ++ [x])] (encP x.b) [gqT g c G xs] := by
 intro w H hp
 have HM0 := Lib.hid (mem_refl hp)
 clear hp
 obtain ⟨p, m, HM1'⟩ := Mem.gq HM0.out
 clear HM0
 rw [show (xs ++ [x]).length = xs.length + 1 from List.length_append] at HM1'
 have HM0 := Lib.hid HM1'
 clear HM1'
 have hle : xs.length ≤ m := by have := row_cap (Mem.src HM0.out 1 rfl rowT_reads); rw [bksP_len, List.length_append] at this; omega
 obtain ⟨gb, rfl⟩ := Mem.rowPtr HM0.out (k := 1) rfl (by rw [bksP_len, List.length_append]; exact Nat.succ_pos _)
 have hx : Hid ((bksP (xs ++ [x]))[xs.length]? = some (some x.b)) := Lib.hid (bksP_at (get_last xs x))
 have hsub : Hid (wrap64 (xs.length : Int) = (xs.length : Int)) := Lib.hid (by unfold wrap64; omega)
 go_enter Tryz.func223, Tryz.ntmps223
 refine wp_seq (wQ ?_)
 refine wp_seq ?_
 have Cbx := Mem.cell HM0.out 0 rfl
 refine wQ ?_
 clear Cbx
 refine wp_seq (wN [(0, 1), (1, 1), (2, 1), (3, 1), (4, 1), (5, 1), (6, 1)] ?_)
 have Cbx := Mem.cell HM0.out 0 rfl
 refine wT [0, 1, 2, 3] ?_
 clear Cbx
 refine wI elemPq 4 (rowAt_src (Mem.src HM0.out 1 rfl rowT_reads)) (hx.out) fun eb1 eo2 hc3 => ?_
 refine wM 5 (.pointer (some ⟨x.b, 0, none⟩)) (hc3 0 _ rfl) Tryz.underlying124 ?_
 refine wT [6] ?_
 refine wZ (wp_seq (wN [(0, 1), (1, 1), (2, 1), (3, 1), (4, 1), (5, 3)] ?_))
 have Cbx := Mem.cell HM0.out 0 rfl
 refine wT [0, 1, 2, 3] ?_
 clear Cbx
 refine wpS_addrE (E := elemPq) (i := 4) (d := some 20) (j := xs.length) rfl (by rfl) rfl rfl rfl HM0.out 1 rfl (by rw [← bksP_snoc, List.length_append, bksP_len]; exact Nat.lt_succ_self _) rfl ?_
 rintro _ ⟨⟩
 simp only [Act.put, List.setIfInBounds_toArray, List.set_cons_succ, List.set_cons_zero]
 refine wpS_setE (E := elemPq) (i := 5) (j := xs.length) (q := 0) (v := .pointer none) (x0 := some x.b) (y0 := none) (L2 := [_]) rfl (by rfl) rfl rfl rfl rfl (by kernel_rfl) rfl HM0.out 1 rfl rfl rfl (by decide) (hx.out) rfl covS_nil rfl ?_
 rintro W5 hm4 -
 have HM6 := Lib.hid hm4
 clear hm4
 rw [set_last] at HM6
 refine wZ (wp_seq (wN [(0, 1), (1, 1), (2, 1), (3, 1), (4, 1), (5, 1), (6, 1), (7, 3)] ?_))
 have Cbx := Mem.cell HM6.out 1 rfl
 refine wT [0, 1, 2, 3, 4] ?_
 clear Cbx
 refine wR 5 (run_headE (E := elemPq) (k := xs.length) hle rfl rfl rfl) ?_
 refine wT [6] ?_
 refine wYh 7 _ [_] [.int .i64 G.self, .int .i64 G.part, .int .i64 G.epoch, .int .i64 G.dst, .pointer (some ⟨c, 0, none⟩), .slice (some ⟨gb, 0, none⟩) xs.length m, .int .i64 G.seq, .int .i64 G.ticks, .bool G.ends] HM6 1 fun W8 HM9 => ?_
 refine wZ (wp_seq (wQ ?_))
 refine wp_ret (bodyPost_ret (results_tmp rfl _ _ _) rfl ?_)
 have hq := Mem.swap2 (Mem.rowLess (Mem.only (M := [_, _]) HM9.out [1, 0] rfl))
 rw [bksP_len] at hq
 exact does_ret (Mem.toGq rfl hq) rfl rfl
set_option maxHeartbeats 4000000 in
set_option maxRecDepth 100000 in
theorem ppopr_d (r : Nat) (xs : List Pz) (x : Pz) (hl : xs.length < 1000) : Does Tryz.prog 223 #[.pointer (some ⟨r, 0, none⟩)] [rqT r (xs ++ [x])] (encP x.b) [rqT r xs] := by
 intro w H hp
 have HM0 := Lib.hid (mem_refl hp)
 clear hp
 obtain ⟨p, m, HM1'⟩ := Mem.rq HM0.out
 clear HM0
 rw [show (xs ++ [x]).length = xs.length + 1 from List.length_append] at HM1'
 have HM0 := Lib.hid HM1'
 clear HM1'
 have hle : xs.length ≤ m := by have := row_cap (Mem.src HM0.out 1 rfl rowT_reads); rw [bksP_len, List.length_append] at this; omega
 obtain ⟨gb, rfl⟩ := Mem.rowPtr HM0.out (k := 1) rfl (by rw [bksP_len, List.length_append]; exact Nat.succ_pos _)
 have hx : Hid ((bksP (xs ++ [x]))[xs.length]? = some (some x.b)) := Lib.hid (bksP_at (get_last xs x))
 have hsub : Hid (wrap64 (xs.length : Int) = (xs.length : Int)) := Lib.hid (by unfold wrap64; omega)
 go_enter Tryz.func223, Tryz.ntmps223
 refine wp_seq (wQ ?_)
 refine wp_seq ?_
 have Cbx := Mem.cell HM0.out 0 rfl
 refine wQ ?_
 clear Cbx
 refine wp_seq (wN [(0, 1), (1, 1), (2, 1), (3, 1), (4, 1), (5, 1), (6, 1)] ?_)
 have Cbx := Mem.cell HM0.out 0 rfl
 refine wT [0, 1, 2, 3] ?_
 clear Cbx
 refine wI elemPq 4 (rowAt_src (Mem.src HM0.out 1 rfl rowT_reads)) (hx.out) fun eb1 eo2 hc3 => ?_
 refine wM 5 (.pointer (some ⟨x.b, 0, none⟩)) (hc3 0 _ rfl) Tryz.underlying124 ?_
 refine wT [6] ?_
 refine wZ (wp_seq (wN [(0, 1), (1, 1), (2, 1), (3, 1), (4, 1), (5, 3)] ?_))
 have Cbx := Mem.cell HM0.out 0 rfl
 refine wT [0, 1, 2, 3] ?_
 clear Cbx
 refine wpS_addrE (E := elemPq) (i := 4) (d := some 20) (j := xs.length) rfl (by rfl) rfl rfl rfl HM0.out 1 rfl (by rw [← bksP_snoc, List.length_append, bksP_len]; exact Nat.lt_succ_self _) rfl ?_
 rintro _ ⟨⟩
 simp only [Act.put, List.setIfInBounds_toArray, List.set_cons_succ, List.set_cons_zero]
 refine wpS_setE (E := elemPq) (i := 5) (j := xs.length) (q := 0) (v := .pointer none) (x0 := some x.b) (y0 := none) (L2 := [_]) rfl (by rfl) rfl rfl rfl rfl (by kernel_rfl) rfl HM0.out 1 rfl rfl rfl (by decide) (hx.out) rfl covS_nil rfl ?_
 rintro W5 hm4 -
 have HM6 := Lib.hid hm4
 clear hm4
 rw [set_last] at HM6
 refine wZ (wp_seq (wN [(0, 1), (1, 1), (2, 1), (3, 1), (4, 1), (5, 1), (6, 1), (7, 3)] ?_))
 have Cbx := Mem.cell HM6.out 1 rfl
 refine wT [0, 1, 2, 3, 4] ?_
 clear Cbx
 refine wR 5 (run_headE (E := elemPq) (k := xs.length) hle rfl rfl rfl) ?_
 refine wT [6] ?_
 refine wYh 7 _ [_] [.slice (some ⟨gb, 0, none⟩) xs.length m] HM6 1 fun W8 HM9 => ?_
 refine wZ (wp_seq (wQ ?_))
 refine wp_ret (bodyPost_ret (results_tmp rfl _ _ _) rfl ?_)
 have hq := Mem.swap2 (Mem.rowLess (Mem.only (M := [_, _]) HM9.out [1, 0] rfl))
 rw [bksP_len] at hq
 exact does_ret (Mem.toRq rfl hq) rfl rfl
end Go.Proofs.YtcchkkdbagpgjaaGreat
