/- The landed giver: what is sent next. -/
import Derived.Test.YtcchkkdbagpgjaaGreatQ20
import Derived.Test.YtcchkkdbagpgjaaGreatPA
namespace Go.Proofs.YtcchkkdbagpgjaaGreat
open Go Go.RowKit Go.BigFrame
structure Fl (S : Vt) (G0 Gf : Gv) (tot : List Ms) (m : Nat) (G : Gv) (told : List Ms) : Prop where
 ok : GvOk G
 len : G.out.length + m = 4
 few : G.seq + m ≤ 4 * G.ticks
 fin : (fillG S m G).1 = Gf
 all : told ++ (fillG S m G).2.map (giveM G0) = tot
 same : SameG G0 G
theorem Fl.start {S : Vt} {G : Gv} (hG : GvOk G) (hf : G.seq + ((4 - G.out.length : Nat) : Int) ≤ 4 * G.ticks) : Fl S G (fillG S (4 - G.out.length) G).1 ((fillG S (4 - G.out.length) G).2.map (giveM G)) (4 - G.out.length) G [] := ⟨hG, by have := hG.len; omega, hf, rfl, List.nil_append _, SameG.rfl' G⟩
def oneG (G : Gv) (F : Fd) (S : Vt) (k : ByteArray) : Gv := ⟨G.self, G.part, G.epoch, G.dst, F, G.seq + 1, G.ticks, G.ends, G.out ++ [⟨G.seq + 1, k, bagV S k, G.ticks⟩]⟩
theorem Fl.more {S : Vt} {G0 Gf G : Gv} {tot told : List Ms} {m : Nat} {F : Fd} {k : ByteArray} (h : Fl S G0 Gf tot (m + 1) G told) (hn : nextF G.F (keysV S G.F.part) = (F, some k)) : Fl S G0 Gf tot m (oneG G F S k) (told ++ [giveM G0 ⟨G.seq + 1, k, bagV S k, G.ticks⟩]) := by
 have h1 := h.len
 have h2 := h.few
 have hf := h.fin
 have ha := h.all
 unfold fillG at hf ha
 rw [hn] at hf ha
 refine ⟨h.ok.one hn (by omega) (by omega), ?_, ?_, hf, ?_, ⟨h.same.self, h.same.part, h.same.epoch, h.same.dst, h.same.ticks, h.same.ends⟩⟩
 ·show (G.out ++ [_]).length + m = 4
  rw [List.length_append, List.length_singleton]
  omega
 ·show G.seq + 1 + m ≤ 4 * G.ticks
  omega
 ·rw [List.append_assoc]
  exact ha
theorem Fl.none {S : Vt} {G0 Gf G : Gv} {tot told : List Ms} {m : Nat} {F : Fd} (h : Fl S G0 Gf tot (m + 1) G told) (hn : nextF G.F (keysV S G.F.part) = (F, .none)) : Gf = ⟨G.self, G.part, G.epoch, G.dst, F, G.seq, G.ticks, G.ends, G.out⟩ ∧ tot = told := by
 have hf := h.fin
 have ha := h.all
 unfold fillG at hf ha
 rw [hn] at hf ha
 refine ⟨hf.symm, ?_⟩
 rw [← ha]
 exact List.append_nil _
theorem Fl.zero {S : Vt} {G0 Gf G : Gv} {tot told : List Ms} (h : Fl S G0 Gf tot 0 G told) : Gf = G ∧ tot = told := by
 refine ⟨h.fin.symm, ?_⟩
 rw [← h.all]
 exact List.append_nil _
theorem kq_last {D : List Pz} {x y : Pz} (h : kqP y = kqP x) : (D ++ [y]).map kqP = (D ++ [x]).map kqP := by
 rw [List.map_append, List.map_append, List.map_singleton, List.map_singleton, h]
theorem gv_snoc {D : List Pz} {G : Gv} {F : Fd} {S : Vt} {k : ByteArray} {b c : Nat} {p : Option Addr} (h : D.map (fun x => x.o) = G.out) : (D ++ [(⟨b, ⟨G.seq + 1, k, bagV S k, G.ticks⟩, p, c⟩ : Pz)]).map (fun x => x.o) = (oneG G F S k).out := by
 rw [List.map_append, h]
 rfl
theorem fnx_s {c dv dl : Nat} {F F' : Fd} {S : Vt} {k : ByteArray} (hF : FdOk F) (hS : VtOk S) (hl : S.b.length ≤ 3000) (h : nextF F (keysV S F.part) = (F', some k)) : DoesU Tryz.prog 87 #[.pointer (some ⟨c, 0, none⟩), .pointer (some ⟨dv, 0, none⟩)] [fdT c F, vtT dv dl S] (fun u => [pairT u k (bagV S k) true, fdT c F', vtT dv dl S]) := by
 have h1 := fnext_d c dv dl F hF S hS hl
 rw [nextTl_some (congrArg (fun z => z.2) h), h] at h1
 exact h1
theorem fnx_n {c dv dl : Nat} {F F' : Fd} {S : Vt} (hF : FdOk F) (hS : VtOk S) (hl : S.b.length ≤ 3000) (h : nextF F (keysV S F.part) = (F', .none)) : DoesU Tryz.prog 87 #[.pointer (some ⟨c, 0, none⟩), .pointer (some ⟨dv, 0, none⟩)] [fdT c F, vtT dv dl S] (fun u => [pairT u ⟨#[]⟩ noB false, fdT c F', vtT dv dl S]) := by
 have h1 := fnext_d c dv dl F hF S hS hl
 rw [nextTl_none (congrArg (fun z => z.2) h), h] at h1
 exact h1
set_option maxHeartbeats 4000000 in
set_option maxRecDepth 100000 in
theorem gnext_d (g dv dl : Nat) (A : At) (G : Gv) (hG : GvOk G) (ht : G.ticks ≤ 1000000) (hf : G.seq + ((4 - G.out.length : Nat) : Int) ≤ 4 * G.ticks) (S : Vt) (hS : VtOk S) (hl : S.b.length ≤ 3000) (Gf : Gv) (os : List Ot) (hfl : fillG S (4 - G.out.length) G = (Gf, os)) : DoesU Tryz.prog 46 #[.pointer (some ⟨g, 0, none⟩), .pointer (some ⟨dv, 0, none⟩)] [gvT g A G, A, vtT dv dl S] (fun u => [gtT g A u Gf (os.map (giveM G)), vtT dv dl S]) := by
 intro w H hp
 have HM0 := Lib.hid (mem_refl hp)
 clear hp
 obtain ⟨D, c, hDo', hDr', HM1'⟩ := Mem.gv HM0.out
 clear HM0
 have HM0 := Lib.hid HM1'
 clear HM1'
 have hDo := Lib.hid hDo'
 clear hDo'
 have hDr := Lib.hid hDr'
 clear hDr'
 have hG4 := hG.len
 obtain ⟨tot, htot⟩ : ∃ z, os.map (giveM G) = z := ⟨_, rfl⟩
 rw [htot]
 have hFs : Hid (Fl S G Gf tot (4 - G.out.length) G []) := Lib.hid (by have h := Fl.start (S := S) hG hf; rw [hfl] at h; rw [← htot]; exact h)
 clear htot hfl hf
 go_enter Tryz.func46, Tryz.ntmps46
 refine wp_seq (wQ ?_)
 refine wp_seq (wQ ?_)
 refine wp_seq (wp_block ?_)
 have HS1 := Mem.nilRow elemMx (Mem.only (M := [_, _, _, _, _]) HM0.out [0, 0, 0, 0, 0] rfl)
 have HM2 := Lib.hid HS1
 clear HS1
 have HS3 := Mem.asL (Mem.only (M := [_, _, _, _, _, _]) HM2.out [4, 0, 0, 0, 0, 0] rfl)
 have HM4 := Lib.hid HS3
 clear HS3
 refine wp_loop_F [5, 6, 7, 8, 9, 10, 11, 12, 13, 14, 15, 16, 17, 18, 19, 20, 21, 22, 23, 24, 25, 26, 27, 28, 29, 30, 31, 32, 33, 34, 35, 36, 37, 38, 39, 40, 41, 42, 43, 44, 45, 46, 47, 48, 49, 50, 51, 52] (fun n vs W' => ∃ (G1 : Gv) (D1 : List Pz) (rs : List At) (ms : List Mx) (pm : Option Addr) (cm : Nat), vs 5 = .slice pm ms.length cm ∧ Fl S G Gf tot n G1 (ms.map fun x => x.m) ∧ D1.map (fun x => x.o) = G1.out ∧ (∀ x ∈ D1, Reads elemV (listT (rs ++ [A])) x.sv x.o.b.v ∧ x.o.b.v.length ≤ 32) ∧ (∀ x ∈ ms, OwnM (listT (rs ++ [A])) x) ∧ ms.length + n ≤ 4 ∧ Mem [rowT elemMx (.slice pm ms.length cm) ms, ghT g c G1 D1, fdT c G1.F, pcsT D1, vtT dv dl S, listT (rs ++ [A])] H w W') (n0 := 4 - G.out.length) ?_ ?_
 ·exact ⟨G, D, [], [], none, 0, rfl, hFs.out, hDo.out, (fun x hx => ⟨reads_la (hDr.out x hx).1, (hDr.out x hx).2⟩), (fun x h => by cases h), (by show 0 + _ ≤ 4; omega), (Mem.only (M := [_, _, _, _, _, _]) HM4.out [1, 1, 1, 1, 1, 0] rfl)⟩
 rintro n vs W' ⟨G1, D1, rs, ms, pm, cm, e5, hF', hDo1', hDr1', hmo', hml, hm⟩
 simp only [putAll, List.map_cons, List.map_nil, Act.put, List.setIfInBounds_toArray, List.set_cons_succ, List.set_cons_zero]
 rw [e5]
 clear e5
 have hF := Lib.hid hF'
 clear hF'
 have hDo1 := Lib.hid hDo1'
 clear hDo1'
 have hDr1 := Lib.hid hDr1'
 clear hDr1'
 have hmo := Lib.hid hmo'
 clear hmo'
 have HM5 := Lib.hid hm
 clear hm
 refine wp_seq (wp_seq ?_)
 rcases n with _ | n
 ·skip
  obtain ⟨xs, hh', hp', HS6⟩ := Mem.gh (Mem.only (M := [_, _, _, _, _, _]) HM5.out [1, 0, 0, 0, 0, 0] rfl)
  have hh := Lib.hid hh'
  clear hh'
  have hp := Lib.hid hp'
  clear hp'
  have HM7 := Lib.hid HS6
  clear HS6
  obtain ⟨p, m, HS8⟩ := Mem.gq (Mem.only (M := [_, _, _, _, _, _]) HM7.out [0, 0, 0, 0, 0, 0] rfl)
  have HM9 := Lib.hid HS8
  clear HS8
  have hxl : Hid (xs.length = G1.out.length) := Lib.hid (by rw [hp.out.length_eq, gv_len hDo1.out])
  have g1 : decide ((xs.length : Int) < 4) = false := decide_eq_false (by have h1 := hxl.out; have h2 := hF.out.len; omega)
  have g1' : decide (xs.length < 4) = false := decide_eq_false (by have h1 := hxl.out; have h2 := hF.out.len; omega)
  have Cbx := Mem.cell HM9.out 0 rfl
  refine wQ ?_
  clear Cbx
  refine wp_cond_false rfl (wp_exit ?_)
  refine then_exit (then_exit (block_exit ?_))
  refine then_normal (wp_seq (wQ ?_))
  refine wp_ret (bodyPost_ret (results_tmp rfl _ _ _) rfl ?_)
  obtain ⟨e1, e2⟩ := hF.out.zero
  subst e1
  have h3 := Mem.toGv (A := listT (rs ++ [A])) hDo1.out hDr1.out (Mem.toGh hh.out hp.out (Mem.toGq rfl (Mem.only (M := [_, _, _, _, _, _, _]) HM9.out [0, 0, 1, 1, 0, 1, 0] rfl)))
  exact doesU_ret (post := fun u => [gtT g A u Gf tot, vtT dv dl S]) (Mem.toGt (rs := rs) e2.symm hmo.out h3) rfl
 ·skip
  obtain ⟨xs, hh', hp', HS10⟩ := Mem.gh (Mem.only (M := [_, _, _, _, _, _]) HM5.out [1, 0, 0, 0, 0, 0] rfl)
  have hh := Lib.hid hh'
  clear hh'
  have hp := Lib.hid hp'
  clear hp'
  have HM11 := Lib.hid HS10
  clear HS10
  obtain ⟨p, m, HS12⟩ := Mem.gq (Mem.only (M := [_, _, _, _, _, _]) HM11.out [0, 0, 0, 0, 0, 0] rfl)
  have HM13 := Lib.hid HS12
  clear HS12
  have hxl : Hid (xs.length = G1.out.length) := Lib.hid (by rw [hp.out.length_eq, gv_len hDo1.out])
  have g1 : decide ((xs.length : Int) < 4) = true := decide_eq_true (by have h1 := hxl.out; have h2 := hF.out.len; omega)
  have g1' : decide (xs.length < 4) = true := decide_eq_true (by have h1 := hxl.out; have h2 := hF.out.len; omega)
  have Cbx := Mem.cell HM13.out 0 rfl
  refine wQ ?_
  clear Cbx
  refine wp_cond_true rfl (wp_skip (then_normal (wp_block (wp_seq ?_))))
  obtain ⟨F2, o2, hnx'⟩ : ∃ F o, nextF G1.F (keysV S G1.F.part) = (F, o) := ⟨_, _, rfl⟩
  rcases o2 with _ | k
  ·have hnx := Lib.hid hnx'
   clear hnx'
   refine wN [(0, 1), (1, 1), (2, 1), (3, 1), (4, 1), (5, 3), (6, 1), (7, 1), (8, 1), (9, 3), (10, 3), (11, 1)] ?_
   have Cbx := Mem.cell HM13.out 0 rfl
   refine wT [0, 1, 2, 3, 4] ?_
   clear Cbx
   refine wU2 5 [_, _, _, _, _] Tryz.call87 (fnx_n hF.out.ok.fd hS hl hnx.out) HM13 [3, 4] fun u16 W15 hm14 => ?_
   obtain ⟨pz, cz, rfl, hm14q⟩ := Mem.pair rfl hm14
   clear hm14
   have HM17 := Lib.hid hm14q
   clear hm14q
   refine wT [6, 7, 8] ?_
   refine wpS_alloc (i := 9) (dd := 6) (z := prV ⟨#[]⟩ noB.k (.slice none 0 0)) (cs := (prC ⟨#[]⟩ noB.k (.slice none 0 0)).toArray) rfl (by rfl) rfl (by kernel_rfl) rfl HM17.out covS_nil rfl ?_
   rintro b20 W19 hm18 -
   have HM21 := Lib.hid hm18
   clear hm18
   simp only [Act.put, List.setIfInBounds_toArray, List.set_cons_succ, List.set_cons_zero]
   refine wpS_storeA (i := 10) (L2 := [_, _, _, _, _, _, _, _]) (cs' := prC ⟨#[]⟩ noB.k (.slice pz noB.v.length cz)) rfl (by rfl) rfl rfl rfl (by kernel_rfl) (prC_one _ _ _) HM21.out 0 rfl rfl (by kernel_rfl) (by kernel_rfl) covS_nil rfl ?_
   rintro W23 hm22 -
   have HM24 := Lib.hid hm22
   clear hm22
   refine wT [11] ?_
   refine wZ (wp_seq (wp_seq (wQ ?_)))
   refine wp_cond_true rfl (wp_exit ?_)
   refine then_exit (block_out (by decide) (then_exit (block_exit ?_)))
   refine then_normal (wp_seq (wQ ?_))
   refine wp_ret (bodyPost_ret (results_tmp rfl _ _ _) rfl ?_)
   obtain ⟨e1, e2⟩ := hF.out.none hnx.out
   have h3 := Mem.toGv (A := listT (rs ++ [A])) (G := Gf) (by rw [e1]; exact hDo1.out) hDr1.out (by rw [e1]; exact Mem.toGh hh.out hp.out (Mem.toGq rfl (Mem.only (M := [_, _, _, _, _, _, _]) HM24.out [4, 4, 2, 4, 3, 3, 2] rfl)))
   exact doesU_ret (post := fun u => [gtT g A u Gf tot, vtT dv dl S]) (Mem.toGt (rs := rs) e2.symm hmo.out h3) rfl
  ·have hnx := Lib.hid hnx'
   clear hnx'
   refine wN [(0, 1), (1, 1), (2, 1), (3, 1), (4, 1), (5, 3), (6, 1), (7, 1), (8, 1), (9, 3), (10, 3), (11, 1)] ?_
   have Cbx := Mem.cell HM13.out 0 rfl
   refine wT [0, 1, 2, 3, 4] ?_
   clear Cbx
   refine wU2 5 [_, _, _, _, _] Tryz.call87 (fnx_s hF.out.ok.fd hS hl hnx.out) HM13 [3, 4] fun u27 W26 hm25 => ?_
   obtain ⟨pb, cb, rfl, hm25q⟩ := Mem.pair rfl hm25
   clear hm25
   have HM28 := Lib.hid hm25q
   clear hm25q
   refine wT [6, 7, 8] ?_
   refine wpS_alloc (i := 9) (dd := 6) (z := prV ⟨#[]⟩ noB.k (.slice none 0 0)) (cs := (prC ⟨#[]⟩ noB.k (.slice none 0 0)).toArray) rfl (by rfl) rfl (by kernel_rfl) rfl HM28.out covS_nil rfl ?_
   rintro b31 W30 hm29 -
   have HM32 := Lib.hid hm29
   clear hm29
   simp only [Act.put, List.setIfInBounds_toArray, List.set_cons_succ, List.set_cons_zero]
   refine wpS_storeA (i := 10) (L2 := [_, _, _, _, _, _, _, _]) (cs' := prC k (bagV S k).k (.slice pb (bagV S k).v.length cb)) rfl (by rfl) rfl rfl rfl (by kernel_rfl) (prC_one _ _ _) HM32.out 0 rfl rfl (by kernel_rfl) (by kernel_rfl) covS_nil rfl ?_
   rintro W34 hm33 -
   have HM35 := Lib.hid hm33
   clear hm33
   refine wT [11] ?_
   refine wZ (wp_seq (wp_seq (wQ ?_)))
   refine wp_cond_false rfl (wp_skip (then_normal (wp_seq ?_)))
   have hq1 := hF.out.ok.nn.1
   have hq2 : G1.seq ≤ 4000004 := by have h1 := hF.out.few; have h2 := hF.out.same.ticks; omega
   have hgm : Hid (Fl S G Gf tot n (oneG G1 F2 S k) (ms.map (fun x => x.m) ++ [giveM (oneG G1 F2 S k) (⟨G1.seq + 1, k, bagV S k, 0⟩ : Ot)])) := Lib.hid (by have h := hF.out.more hnx.out; rw [← hF.out.same.give] at h; exact h)
   refine wN [(0, 1), (1, 1), (2, 1), (3, 1), (4, 1), (5, 1), (6, 1), (7, 3)] ?_
   have Cbx := Mem.cell HM35.out 4 rfl
   refine wT [0, 1, 2, 3, 4, 5, 6] ?_
   clear Cbx
   refine wpS_store1 (i := 7) (v := .int _ _) (L2 := [_, _, _, _, _, _, _, _]) (cs' := [.int .i64 G1.self, .int .i64 G1.part, .int .i64 G1.epoch, .int .i64 G1.dst, .pointer (some ⟨c, 0, none⟩), .slice p xs.length m, .int .i64 (G1.seq + 1), .int .i64 G1.ticks, .bool G1.ends]) rfl (by rfl) rfl rfl rfl rfl (by kernel_rfl) rfl HM35.out 4 rfl rfl rfl rfl covS_nil rfl ?_
   rintro W37 hm36 -
   have HM38 := Lib.hid hm36
   clear hm36
   refine wZ (wp_seq ?_)
   refine wp_region_M (fun k => k ∈ ([] : List Nat)) [(0, 1), (1, 1), (2, 1), (3, 1), (4, 1), (5, 1), (6, 3), (7, 1)] (by kernel_rfl) (by kernel_rfl) HM38.out ?_
   intro W39 hm40
   have HM41 := Lib.hid hm40
   clear hm40
   have Cbx := Mem.cell HM41.out 0 rfl
   refine wT [0, 1, 2, 3] ?_
   clear Cbx
   refine wL 4 (prC k (bagV S k).k (.slice pb (bagV S k).v.length cb)) (HM41.out.part 1 rfl (prC_all)) Tryz.underlying116 ?_
   refine wR 5 (v := pcV (⟨G1.seq + 1, k, bagV S k, 0⟩ : Ot) (.slice pb (bagV S k).v.length cb)) (by kernel_rfl) ?_
   refine wBh 6 HM41 fun b44 W43 HM45 => ?_
   refine wT [7] ?_
   refine wZ (wp_seq ?_)
   have HS46 := Mem.toGh (G := (oneG G1 F2 S k)) hh.out hp.out (Mem.toGq (G := (oneG G1 F2 S k)) rfl (Mem.only (M := [_, _, _, _, _, _, _, _, _, _]) HM45.out [1, 5, 0, 0, 0, 0, 0, 0, 0, 0] rfl))
   have HM47 := Lib.hid HS46
   clear HS46
   have HS48 := Mem.pcClose (x := (⟨b44, (⟨G1.seq + 1, k, bagV S k, 0⟩ : Ot), pb, cb⟩ : Pz)) (Mem.only (M := [_, _, _, _, _, _, _, _, _]) HM47.out [1, 6, 0, 0, 0, 0, 0, 0, 0] rfl)
   have HM49 := Lib.hid HS48
   clear HS48
   have HS50 := Mem.intoL (Mem.only (M := [_, _, _, _, _, _, _, _]) HM49.out [3, 6, 0, 0, 0, 0, 0, 0] rfl)
   have HM51 := Lib.hid HS50
   clear HS50
   refine wN [(0, 1), (1, 1), (2, 1), (3, 1), (4, 1), (5, 1), (6, 3)] (wT [0, 1, 2, 3, 4, 5] ?_)
   refine wU2 6 [_, _, _, _, _] Tryz.call88 (gpush_d g c (oneG G1 F2 S k) D1 ((⟨b44, (⟨G1.seq + 1, k, bagV S k, 0⟩ : Ot), pb, cb⟩ : Pz) :: D1) (⟨b44, (⟨G1.seq + 1, k, bagV S k, 0⟩ : Ot), pb, cb⟩ : Pz) (fun z hz => List.mem_cons_of_mem _ hz) List.mem_cons_self (by have h1 := gv_len hDo1.out; have h2 := hF.out.ok.len; omega)) HM51 [2, 1] fun u54 W53 hm52 => ?_
   have HM55 := Lib.hid hm52
   clear hm52
   refine wZ ?_
   obtain ⟨xs2, hh2', hp2', HS56⟩ := Mem.gh (Mem.only (M := [_, _, _, _, _, _, _]) HM55.out [0, 0, 0, 0, 0, 0, 0] rfl)
   have hh2 := Lib.hid hh2'
   clear hh2'
   have hp2 := Lib.hid hp2'
   clear hp2'
   have HM57 := Lib.hid HS56
   clear HS56
   obtain ⟨p2, m2, HS58⟩ := Mem.gq (Mem.only (M := [_, _, _, _, _, _, _]) HM57.out [0, 0, 0, 0, 0, 0, 0] rfl)
   have HM59 := Lib.hid HS58
   clear HS58
   have HS60 := Mem.pcOpen (x := (⟨b44, (⟨G1.seq + 1, k, bagV S k, 0⟩ : Ot), pb, cb⟩ : Pz)) (m := D1) (List.Perm.refl _) (Mem.only (M := [_, _, _, _, _, _, _, _]) HM59.out [2, 0, 0, 0, 0, 0, 0, 0] rfl)
   have HM61 := Lib.hid HS60
   clear HS60
   refine wN [(0, 1), (1, 1), (2, 1), (3, 3), (4, 3), (5, 3), (6, 1)] (wT [0, 1, 2] ?_)
   refine wU2 3 [_, _, _, _, _, _] Tryz.call86 (gsend_d g c (oneG G1 F2 S k) (.slice p2 xs2.length m2) (⟨b44, (⟨G1.seq + 1, k, bagV S k, 0⟩ : Ot), pb, cb⟩ : Pz) (listT (rowT elemV (.slice pb (bagV S k).v.length cb) (bagV S k).v :: (rs ++ [A]))) (vL 0 rfl rowT_reads) (Nat.le_trans (bagV_len hS k) (by decide))) HM61 [2, 0, 2] fun u64 W63 hm62 => ?_
   obtain ⟨pq, cq, rfl, hm62q⟩ := Mem.sent hm62
   clear hm62
   have HM65 := Lib.hid hm62q
   clear hm62q
   refine wpS_build1 elemMx (i := 4) (dd := 51) (y := mxOf (giveM (oneG G1 F2 S k) (⟨G1.seq + 1, k, bagV S k, 0⟩ : Ot)) pq cq) rfl (by rfl) rfl rfl rfl (by decide) HM65.out covS_nil rfl ?_
   rintro b68 W69 hm70 -
   have HM71 := Lib.hid hm70
   clear hm70
   simp only [Act.put, List.setIfInBounds_toArray, List.set_cons_succ, List.set_cons_zero]
   refine wpS_append (E := elemMx) (i := 5) (d := some 52) (L2 := [_, _, _, _, _, _, _, _, _, _]) rfl (by rfl) rfl HM71.out 10 rfl rfl (HM71.out.src 0 rfl rowT_reads) rfl (by show (_ + 1) * 552 ≤ 140737488355328; omega) rfl covS_nil rfl ?_
   rintro u74 W75 hm76 -
   have HM77 := Lib.hid hm76
   clear hm76
   simp only [Act.put, List.setIfInBounds_toArray, List.set_cons_succ, List.set_cons_zero]
   obtain ⟨up, uc, hup⟩ := row_form (Mem.src HM77.out 0 rfl rowT_reads)
   subst hup
   refine wT [6] ?_
   have HS78 := Mem.pcPerm (List.perm_append_singleton (⟨b44, ⟨G1.seq + 1, k, bagV S k, G1.ticks⟩, pb, cb⟩ : Pz) D1).symm (Mem.pcClose (x := (⟨b44, ⟨G1.seq + 1, k, bagV S k, G1.ticks⟩, pb, cb⟩ : Pz)) (m := D1) (Mem.only (M := [_, _, _, _, _, _, _, _, _, _, _]) HM77.out [4, 5, 0, 0, 0, 0, 0, 0, 0, 0, 0] rfl))
   have HM79 := Lib.hid HS78
   clear HS78
   have HS80 := Mem.ghSame (D := D1 ++ [(⟨b44, (⟨G1.seq + 1, k, bagV S k, 0⟩ : Ot), pb, cb⟩ : Pz)]) (D' := D1 ++ [(⟨b44, ⟨G1.seq + 1, k, bagV S k, G1.ticks⟩, pb, cb⟩ : Pz)]) (kq_last rfl) (Mem.toGh (G := (oneG G1 F2 S k)) hh2.out hp2.out (Mem.toGq (G := (oneG G1 F2 S k)) rfl (Mem.only (M := [_, _, _, _, _, _, _, _, _, _]) HM79.out [4, 5, 0, 0, 0, 0, 0, 0, 0, 0] rfl)))
   have HM81 := Lib.hid HS80
   clear HS80
   have HS82 := Mem.intoL (Mem.only (M := [_, _, _, _, _, _, _, _, _]) HM81.out [4, 4, 0, 0, 0, 0, 0, 0, 0] rfl)
   have HM83 := Lib.hid HS82
   clear HS82
   refine wpS_nil (block_normal (then_normal ?_))
   refine ⟨by kernel_rfl, ?_⟩
   exact ⟨n, Nat.lt_succ_self _, (oneG G1 F2 S k), _, _ :: _ :: rs, _, up, uc, rfl, (by rw [List.map_append]; exact hgm.out), gv_snoc hDo1.out, (fun z hz => (List.mem_append.1 hz).elim (fun hz => ⟨reads_cl (rs := _ :: rs) (reads_cl (hDr1.out z hz).1), (hDr1.out z hz).2⟩) (fun hz => by rw [List.mem_singleton.1 hz]; exact ⟨reads_more (vL 0 rfl rowT_reads), bagV_len hS k⟩)), (fun z hz => (List.mem_append.1 hz).elim (fun hz => own_cl (rs := _ :: rs) (own_cl (hmo.out z hz))) (fun hz => by rw [List.mem_singleton.1 hz]; exact own_new)), (by rw [List.length_append, List.length_singleton]; omega), (Mem.only (M := [_, _, _, _, _, _]) HM83.out [3, 1, 4, 1, 3, 0] rfl)⟩
end Go.Proofs.YtcchkkdbagpgjaaGreat
