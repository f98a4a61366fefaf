/- Q20: GvW, GvZ. -/
import Derived.Test.YtcchkkdbagpgjaaGreatGvQ
import Derived.Test.YtcchkkdbagpgjaaGreatPA
namespace Go.Proofs.YtcchkkdbagpgjaaGreat
open Go Go.RowKit Go.BigFrame
set_option maxHeartbeats 4000000 in
set_option maxRecDepth 100000 in
theorem gsend_d (g c : Nat) (G : Gv) (sl : Value) (x : Pz) (A : At) (hA : Reads elemV A x.sv x.o.b.v) (hl : x.o.b.v.length ≤ 4398046510976) : DoesU Tryz.prog 86 #[.pointer (some ⟨g, 0, none⟩), .pointer (some ⟨x.b, 0, none⟩)] [gvB g c G sl, pcT x, A] (fun u => [sentT u (giveM G x.o), gvB g c G sl, pcT (setAt G.ticks x), A]) := by
 intro w H hp
 have HM0 := Lib.hid (mem_refl hp)
 clear hp
 go_enter Tryz.func86, Tryz.ntmps86
 refine wp_seq (wN [(0, 3)] ?_)
 refine wpS_alloc (i := 0) (dd := 4) (z := msV noMs (.slice none 0 0) (.slice none 0 0) (.slice none 0 0)) (cs := (msC (noMs) (.slice none 0 0) (.slice none 0 0) (.slice none 0 0)).toArray) rfl (by rfl) rfl (by kernel_rfl) rfl HM0.out covS_nil rfl ?_
 rintro b3 W2 hm1 -
 have HM4 := Lib.hid hm1
 clear hm1
 simp only [Act.put, List.setIfInBounds_toArray, List.set_cons_succ, List.set_cons_zero]
 refine wZ (wp_seq (wN [(0, 1), (1, 1), (2, 1), (3, 1), (4, 1), (5, 1), (6, 1), (7, 3)] ?_))
 have Cbx := Mem.cell HM4.out 1 rfl
 refine wT [0, 1, 2, 3, 4, 5, 6] ?_
 clear Cbx
 refine wpS_store1 (i := 7) (v := .int .i64 (G.ticks)) (L2 := [_, _, _]) (cs' := pcC (⟨x.o.seq, x.o.key, x.o.b, G.ticks⟩ : Ot) (x.sv)) rfl (by rfl) rfl rfl rfl rfl (by kernel_rfl) rfl HM4.out 2 rfl rfl (by kernel_rfl) (pcC_setAt _) covS_nil rfl ?_
 rintro W6 hm5 -
 have HM7 := Lib.hid hm5
 clear hm5
 refine wZ (wp_seq (wN [(0, 1), (1, 3), (2, 3), (3, 3)] (wT [0] ?_)))
 refine wD2h 1 [_, _, _] [_, _, _, _] Tryz.call89 (gmsg_d g c G sl 5) HM7 [2] fun W9 HM10 => ?_
 refine wpS_alloc (i := 2) (dd := 5) (z := msV noMs (.slice none 0 0) (.slice none 0 0) (.slice none 0 0)) (cs := (msC (noMs) (.slice none 0 0) (.slice none 0 0) (.slice none 0 0)).toArray) rfl (by rfl) rfl (by kernel_rfl) rfl HM10.out covS_nil rfl ?_
 rintro b13 W12 hm11 -
 have HM14 := Lib.hid hm11
 clear hm11
 simp only [Act.put, List.setIfInBounds_toArray, List.set_cons_succ, List.set_cons_zero]
 refine wpS_storeA (i := 3) (L2 := [_, _, _, _]) (cs' := msC (⟨5, G.self, G.dst, 0, 0, 0, G.part, G.epoch, ⟨#[]⟩, noB, noR⟩) (.slice none 0 0) (.slice none 0 0) (.slice none 0 0)) rfl (by rfl) rfl rfl rfl (by kernel_rfl) (msC_one _ _ _ _ _ _ _ _ _) HM14.out 0 rfl rfl (by kernel_rfl) (by kernel_rfl) covS_nil rfl ?_
 rintro W16 hm15 -
 have HM17 := Lib.hid hm15
 clear hm15
 refine wZ (wp_seq ?_)
 refine wp_region_M (fun k => k ∈ ([x.b] : List Nat)) [(0, 1), (1, 1), (2, 1), (3, 1), (4, 0), (5, 0), (6, 0), (7, 0), (8, 2), (9, 0), (10, 0), (11, 0), (12, 0), (13, 2), (14, 1), (15, 3), (16, 1), (17, 3), (18, 1), (19, 3)] (by kernel_rfl) (by kernel_rfl) HM17.out ?_
 intro W18 hm19
 have HM20 := Lib.hid hm19
 clear hm19
 refine wT [0, 1, 2] ?_
 refine wM 3 (.int .i64 (⟨x.o.seq, x.o.key, x.o.b, G.ticks⟩ : Ot).seq) (HM20.out.part1 2 rfl pcC_seq) Tryz.underlying3 ?_
 refine wA [4, 5, 6, 7] ?_
 refine wM2 8 (.string (⟨x.o.seq, x.o.key, x.o.b, G.ticks⟩ : Ot).key) (HM20.out.part1 2 rfl pcC_key) Tryz.underlying9 ?_
 refine wA [9, 10, 11, 12] ?_
 refine wL2 13 (bgC (⟨x.o.seq, x.o.key, x.o.b, G.ticks⟩ : Ot).b.k (x.sv)) (HM20.out.part 2 rfl (pcC_bag)) Tryz.underlying41 ?_
 refine wT [14] ?_
 refine wpS_store1 (i := 15) (v := .int .i64 (x.o.seq)) (L2 := [_, _, _, _]) (cs' := msC (⟨5, G.self, G.dst, x.o.seq, 0, 0, G.part, G.epoch, ⟨#[]⟩, noB, noR⟩) (.slice none 0 0) (.slice none 0 0) (.slice none 0 0)) rfl (by rfl) rfl rfl rfl rfl (by kernel_rfl) rfl HM20.out 0 rfl rfl (by kernel_rfl) (msC_setSeq _) (covS_box 1 rfl covS_nil) rfl ?_
 rintro W22 hm21 hg23
 have HM24 := Lib.hid hm21
 clear hm21
 refine wT [16] ?_
 refine wpS_store1 (i := 17) (v := .string (x.o.key)) (L2 := [_, _, _, _]) (cs' := msC (⟨5, G.self, G.dst, x.o.seq, 0, 0, G.part, G.epoch, x.o.key, noB, noR⟩) (.slice none 0 0) (.slice none 0 0) (.slice none 0 0)) rfl (by rfl) rfl rfl rfl rfl (by kernel_rfl) rfl HM24.out 0 rfl rfl (by kernel_rfl) (msC_setKey _) (covS_box 1 rfl covS_nil) rfl ?_
 rintro W26 hm25 hg27
 have HM28 := Lib.hid hm25
 clear hm25
 refine wT [18] ?_
 refine wpS_storeA (i := 19) (L2 := [_, _, _, _]) (cs' := msC (⟨5, G.self, G.dst, x.o.seq, 0, 0, G.part, G.epoch, x.o.key, x.o.b, noR⟩) (x.sv) (.slice none 0 0) (.slice none 0 0)) rfl (by rfl) rfl rfl rfl (by kernel_rfl) (by rfl) HM28.out 0 rfl rfl (by kernel_rfl) (msC_setBag (x.o.b) (x.sv)) (covS_box 1 rfl covS_nil) rfl ?_
 rintro W30 hm29 hg31
 have HM32 := Lib.hid hm29
 clear hm29
 refine wZ (wp_seq (wN [(0, 1), (1, 1), (2, 1), (3, 3), (4, 1), (5, 1), (6, 3)] (wT [0, 1] ?_)))
 refine wM 2 x.sv (HM32.out.part1 0 rfl msC_vals) Tryz.underlying39 ?_
 refine wU1 3 [_, _, _, _] Tryz.call77 (vclone_d A _ x.o.b.v hA hl) HM32 [4] fun u35 W34 hm33 => ?_
 obtain ⟨pq, cq, rfl⟩ := row_form (Mem.src hm33 0 rfl rowT_reads)
 have HM36 := Lib.hid hm33
 clear hm33
 refine wT [4, 5] ?_
 refine wpS_store1 (i := 6) (v := .slice pq x.o.b.v.length cq) (L2 := [_, _, _, _, _]) (cs' := msC (⟨5, G.self, G.dst, x.o.seq, 0, 0, G.part, G.epoch, x.o.key, x.o.b, noR⟩) (.slice pq x.o.b.v.length cq) (.slice none 0 0) (.slice none 0 0)) rfl (by rfl) rfl rfl rfl rfl (by kernel_rfl) rfl HM36.out 2 rfl rfl (by kernel_rfl) (msC_setVals _) covS_nil rfl ?_
 rintro W38 hm37 -
 have HM39 := Lib.hid hm37
 clear hm37
 refine wZ (wp_seq (wN [(0, 1), (1, 3)] ?_))
 refine wL 0 (msC (⟨5, G.self, G.dst, x.o.seq, 0, 0, G.part, G.epoch, x.o.key, x.o.b, noR⟩) (.slice pq x.o.b.v.length cq) (.slice none 0 0) (.slice none 0 0)) (HM39.out.part 0 rfl (msC_all)) Tryz.underlying52 ?_
 refine wpS_storeA (i := 1) (L2 := [_, _, _, _, _]) (cs' := msC (⟨5, G.self, G.dst, x.o.seq, 0, 0, G.part, G.epoch, x.o.key, x.o.b, noR⟩) (.slice pq x.o.b.v.length cq) (.slice none 0 0) (.slice none 0 0)) rfl (by rfl) rfl rfl rfl (by kernel_rfl) (msC_one _ _ _ _ _ _ _ _ _) HM39.out 5 rfl rfl (by kernel_rfl) (by kernel_rfl) covS_nil rfl ?_
 rintro W41 hm40 -
 have HM42 := Lib.hid hm40
 clear hm40
 refine wZ (wp_ret ?_)
 refine ret_cell rfl HM42.out 0 rfl rfl Tryz.underlying52 rfl (by kernel_rfl) rfl ?_
 exact doesU_ret (post := fun u => [sentT u (giveM G x.o), gvB g c G sl, pcT (setAt G.ticks x), A]) (Mem.toSent (Mem.only (M := [_, _, _, _]) HM42.out [2, 3, 3, 2] rfl)) rfl
end Go.Proofs.YtcchkkdbagpgjaaGreat
namespace Go.Proofs.YtcchkkdbagpgjaaGreat
open Go Go.RowKit Go.BigFrame
theorem perm_lift {α β : Type} (f : α → β) {xs D : List α} (h : xs.Perm D) : ∀ D' : List α, D'.map f = D.map f → ∃ xs' : List α, xs'.Perm D' ∧ xs'.map f = xs.map f := by
 induction h with
 | nil => exact fun D' h => ⟨[], by rw [List.map_eq_nil_iff.1 h], rfl⟩
 | cons x _ ih =>
  intro D' h
  cases D' with
  | nil => cases h
  | cons y D' =>
   obtain ⟨h1, h2⟩ := List.cons.inj h
   obtain ⟨xs', h3, h4⟩ := ih D' h2
   exact ⟨y :: xs', h3.cons y, by rw [List.map_cons, List.map_cons, h1, h4]⟩
 | swap x y l =>
  intro D' h
  cases D' with
  | nil => cases h
  | cons a D' =>
   cases D' with
   | nil => cases (List.cons.inj h).2
   | cons b D' =>
    obtain ⟨h1, h2⟩ := List.cons.inj h
    obtain ⟨h3, h4⟩ := List.cons.inj h2
    exact ⟨b :: a :: D', List.Perm.swap a b D', by rw [List.map_cons, List.map_cons, List.map_cons, List.map_cons, h1, h3, h4]⟩
 | trans _ _ ih1 ih2 =>
  intro D' h
  obtain ⟨ys, h1, h2⟩ := ih2 D' h
  obtain ⟨zs, h3, h4⟩ := ih1 ys h2
  exact ⟨zs, h3.trans h1, h4⟩
def kqP (x : Pz) : Nat × Int := (x.b, x.o.seq)
theorem kq_at {xs ys : List Pz} (h : ys.map kqP = xs.map kqP) {i : Nat} {y : Pz} (hy : ys[i]? = some y) : ∃ x, xs[i]? = some x ∧ x.b = y.b ∧ x.o.seq = y.o.seq := by
 have h1 : (xs.map kqP)[i]? = some (kqP y) := by rw [← h, List.getElem?_map, hy]; rfl
 rw [List.getElem?_map, Option.map_eq_some_iff] at h1
 obtain ⟨x, h2, h3⟩ := h1
 exact ⟨x, h2, congrArg Prod.fst h3, congrArg Prod.snd h3⟩
theorem heap_same {xs ys : List Pz} (h : ys.map kqP = xs.map kqP) (hh : IsHeap lessP xs.length xs) : IsHeap lessP ys.length ys := by
 have hl : ys.length = xs.length := by have := congrArg List.length h; rwa [List.length_map, List.length_map] at this
 rw [hl]
 intro k hk hkn hc u v hu hv
 obtain ⟨u2, h1, _, h2⟩ := kq_at h hu
 obtain ⟨v2, h3, _, h4⟩ := kq_at h hv
 have h5 : decide (v2.o.seq < u2.o.seq) = false := hh k hk hkn hc u2 v2 h1 h3
 show decide (v.o.seq < u.o.seq) = false
 rw [← h2, ← h4]
 exact h5
theorem bksP_same {xs ys : List Pz} (h : ys.map kqP = xs.map kqP) : bksP ys = bksP xs := by
 have h1 := congrArg (List.map fun z : Nat × Int => some z.1) h
 rw [List.map_map, List.map_map] at h1
 exact h1
theorem Mem.ghSame {L : List At} {H0 : Nat → Prop} {w W : World} {g c : Nat} {G : Gv} {D D' : List Pz} (h : D'.map kqP = D.map kqP) (hm : Mem (ghT g c G D :: L) H0 w W) : Mem (ghT g c G D' :: L) H0 w W := by
 obtain ⟨xs, h1, h2, h3⟩ := Mem.gh hm
 obtain ⟨ys, h4, h5⟩ := perm_lift kqP h2 D' h
 obtain ⟨p, n, h6⟩ := Mem.gq h3
 rw [← bksP_same h5] at h6
 exact Mem.toGh (heap_same h5 h1) h4 (Mem.toGq (by have := congrArg List.length h5; rwa [List.length_map, List.length_map] at this) h6)
def agX (t : Int) (x : Pz) : Pz := if oldO t x.o = true then setAt t x else x
theorem agX_o (t : Int) (x : Pz) : (agX t x).o = againO t x.o := by
 unfold agX againO
 split <;> rfl
theorem agX_kq (t : Int) (x : Pz) : kqP (agX t x) = kqP x := by
 unfold agX
 split <;> rfl
theorem agX_rd (t : Int) (x : Pz) : (agX t x).sv = x.sv ∧ (agX t x).o.b = x.o.b := by
 unfold agX
 split <;> exact ⟨rfl, rfl⟩
def agedTo (t : Int) (D : List Pz) (k : Nat) : List Pz := (D.take k).map (agX t) ++ D.drop k
def agedR (t : Int) (D : List Pz) (k : Nat) : List Pz := (D.take k).map (agX t) ++ D.drop (k + 1)
section
variable {t : Int} {D : List Pz} {k : Nat} {x : Pz}
theorem agedTo_open (h : D[k]? = some x) : (agedTo t D k).Perm (x :: agedR t D k) := by
 unfold agedTo agedR
 rw [dropP_cons h]
 exact List.perm_middle
theorem agedTo_shut (h : D[k]? = some x) : (agX t x :: agedR t D k).Perm (agedTo t D (k + 1)) := by
 unfold agedTo agedR
 rw [← takeP_snoc h, List.map_append, List.append_assoc]
 exact List.perm_middle.symm
theorem agedTo_skip (h : D[k]? = some x) (hn : oldO t x.o = false) : agedTo t D (k + 1) = agedTo t D k := by
 unfold agedTo
 rw [dropP_cons h, ← takeP_snoc h, List.map_append, List.append_assoc, List.map_singleton, show agX t x = x from if_neg (by rw [hn]; decide)]
 rfl
theorem agedTo_end (h : D.length ≤ k) : agedTo t D k = D.map (agX t) := by
 unfold agedTo
 rw [List.take_of_length_le h, List.drop_eq_nil_of_le h, List.append_nil]
theorem agedTo_mem (h : D[k]? = some x) : x ∈ agedTo t D k := (agedTo_open h).symm.subset List.mem_cons_self
end
def tellTo (G : Gv) (D : List Pz) (k : Nat) : List Ms := ((D.take k).filter fun x => oldO G.ticks x.o).map fun x => giveM G x.o
theorem tellTo_next {G : Gv} {D : List Pz} {k : Nat} {x : Pz} (h : D[k]? = some x) : tellTo G D (k + 1) = tellTo G D k ++ (if oldO G.ticks x.o = true then [giveM G x.o] else []) := by
 unfold tellTo
 rw [← takeP_snoc h, List.filter_append, List.map_append]
 congr 1
 by_cases ho : oldO G.ticks x.o = true
 ·rw [if_pos ho, List.filter_cons_of_pos (p := fun x : Pz => oldO G.ticks x.o) ho]
  rfl
 ·rw [if_neg ho, List.filter_cons_of_neg (p := fun x : Pz => oldO G.ticks x.o) ho]
  rfl
theorem tellTo_end {G : Gv} {D : List Pz} {k : Nat} (hD : D.map (fun x => x.o) = G.out) (h : D.length ≤ k) : tellTo G D k = (G.out.filter (oldO G.ticks)).map (giveM G) := by
 unfold tellTo
 rw [List.take_of_length_le h, ← hD, List.filter_map, List.map_map]
 rfl
theorem reads_la {A : At} {rs : List At} {α : Type} {E : Elem Tryz.prog α} {v : Value} {xs : List α} (h : Reads E A v xs) : Reads E (listT (rs ++ [A])) v xs := vL rs.length (by rw [List.getElem?_append_right (Nat.le_refl _), Nat.sub_self]; rfl) h
theorem reads_cl {A B : At} {rs : List At} {α : Type} {E : Elem Tryz.prog α} {v : Value} {xs : List α} (h : Reads E (listT (rs ++ [A])) v xs) : Reads E (listT ((B :: rs) ++ [A])) v xs := reads_more h
theorem own_cl {A B : At} {rs : List At} {x : Mx} (h : OwnM (listT (rs ++ [A])) x) : OwnM (listT ((B :: rs) ++ [A])) x := ⟨reads_cl h.rd, h.n⟩
def mxOf (m : Ms) (p : Option Addr) (c : Nat) : Mx := ⟨m, p, m.b.v.length, c, none, 0, 0, none, 0, 0⟩
theorem own_new {m : Ms} {p : Option Addr} {c : Nat} {l : List At} : OwnM (listT (rowT elemV (.slice p m.b.v.length c) m.b.v :: l)) (mxOf m p c) := ⟨vL 0 rfl rowT_reads, rfl, rfl, rfl, rfl, rfl, rfl, rfl⟩
def reG (G : Gv) : Gv := ⟨G.self, G.part, G.epoch, G.dst, G.F, G.seq, G.ticks, G.ends, G.out.map (againO G.ticks)⟩
theorem gh_reG (g c : Nat) (G : Gv) (D : List Pz) : ghT g c (reG G) D = ghT g c G D := rfl
theorem map_ag {D : List Pz} {G : Gv} (h : D.map (fun x => x.o) = G.out) : (D.map (agX G.ticks)).map (fun x => x.o) = (reG G).out := by
 show _ = G.out.map (againO G.ticks)
 rw [← h, List.map_map, List.map_map]
 exact List.map_congr_left fun x _ => agX_o _ x
theorem Mem.toGt {L : List At} {H0 : Nat → Prop} {w W : World} {g : Nat} {A : At} {G : Gv} {l : List Ms} {rs : List At} {xs : List Mx} {p : Option Addr} {c : Nat} (h1 : xs.map (fun x => x.m) = l) (h2 : ∀ x ∈ xs, OwnM (listT (rs ++ [A])) x) (h : Mem (gvT g (listT (rs ++ [A])) G :: rowT elemMx (.slice p xs.length c) xs :: listT (rs ++ [A]) :: L) H0 w W) : Mem (gtT g A (.slice p xs.length c) G l :: L) H0 w W := Mem.addEx rs (Mem.toTells h1 h2 (Mem.swapGv h))
set_option maxHeartbeats 4000000 in
set_option maxRecDepth 100000 in
theorem gresend_d (g : Nat) (A : At) (G : Gv) (hG : GvOk G) (ht : G.ticks ≤ 1000000) (vv : Value) : DoesU Tryz.prog 45 #[.pointer (some ⟨g, 0, none⟩), vv] [gvT g A G, A] (fun u => [gtT g A u (reG G) ((G.out.filter (oldO G.ticks)).map (giveM G))]) := by
 intro w H hp
 have HM0 := Lib.hid (mem_refl hp)
 clear hp
 obtain ⟨D, c, hDo', hDr', HM1'⟩ := Mem.gv HM0.out
 clear HM0
 have HM0 := Lib.hid HM1'
 clear HM1'
 have hDo := Lib.hid hDo'
 clear hDo'
 have hDr := Lib.hid hDr'
 clear hDr'
 have hD4 : D.length ≤ 4 := by rw [gv_len hDo.out]; exact hG.len
 have hnt := hG.nn.2
 go_enter Tryz.func45, Tryz.ntmps45
 refine wp_seq (wQ ?_)
 refine wp_seq (wQ ?_)
 refine wp_seq (wp_seq ?_)
 obtain ⟨xs, hh', hp', HS1⟩ := Mem.gh (Mem.only (M := [_, _, _, _]) HM0.out [0, 0, 0, 0] rfl)
 have hh := Lib.hid hh'
 clear hh'
 have hp := Lib.hid hp'
 clear hp'
 have HM2 := Lib.hid HS1
 clear HS1
 obtain ⟨p, m, HS3⟩ := Mem.gq (Mem.only (M := [_, _, _, _]) HM2.out [0, 0, 0, 0] rfl)
 have HM4 := Lib.hid HS3
 clear HS3
 refine wN [(0, 1), (1, 1), (2, 1), (3, 1), (4, 3), (5, 1), (6, 1)] ?_
 have Cbx := Mem.cell HM4.out 0 rfl
 refine wT [0, 1, 2, 3] ?_
 clear Cbx
 refine wU1 4 [_, _, _] Tryz.call71 (pord_d _ _ xs D rowT_reads hh.out hp.out (gv_srt hDo.out hG.srt) (by omega)) HM4 [1, 2] fun u7 W6 hm5 => ?_
 obtain ⟨po, co, rfl, hm5q⟩ := Mem.ord hm5
 clear hm5
 have HM8 := Lib.hid hm5q
 clear hm5q
 refine wT [5, 6] ?_
 refine wZ (wp_block ?_)
 have HS9 := Mem.toGh hh.out hp.out (Mem.toGq rfl (Mem.only (M := [_, _, _, _, _, _]) HM8.out [3, 1, 0, 0, 0, 0] rfl))
 have HM10 := Lib.hid HS9
 clear HS9
 have HS11 := Mem.nilRow elemMx (Mem.only (M := [_, _, _, _, _]) HM10.out [0, 0, 0, 0, 0] rfl)
 have HM12 := Lib.hid HS11
 clear HS11
 have HS13 := Mem.asL (Mem.only (M := [_, _, _, _, _, _]) HM12.out [5, 0, 0, 0, 0, 0] rfl)
 have HM14 := Lib.hid HS13
 clear HS13
 refine wp_loop_F [5, 7, 14, 15, 16, 17, 18, 19, 20, 21, 22, 23, 24, 25, 26, 27, 28, 29, 30, 31, 32, 33, 34] (fun n vs W' => ∃ (k : Nat) (rs : List At) (ms : List Mx) (pm : Option Addr) (cm : Nat), n = D.length - k ∧ vs 14 = .int .i64 (k : Int) ∧ vs 5 = .slice pm ms.length cm ∧ k ≤ D.length ∧ ms.map (fun x => x.m) = tellTo G D k ∧ (∀ x ∈ ms, OwnM (listT (rs ++ [A])) x) ∧ ms.length ≤ k ∧ Mem [rowT elemMx (.slice pm ms.length cm) ms, rowT elemPr (.slice po D.length co) (bksR D), ghT g c G D, fdT c G.F, pcsT (agedTo G.ticks D k), listT (rs ++ [A])] H w W') (n0 := D.length) ?_ ?_
 ·exact ⟨0, [], [], none, 0, rfl, rfl, rfl, Nat.zero_le _, rfl, (fun x h => by cases h), Nat.le_refl _, (Mem.only (M := [_, _, _, _, _, _]) HM14.out [1, 2, 1, 2, 1, 0] rfl)⟩
 rintro n vs W' ⟨k, rs, ms, pm, cm, rfl, e14, e5, hk, hmm', hmo', hml, hm⟩
 simp only [putAll, List.map_cons, List.map_nil, Act.put, List.setIfInBounds_toArray, List.set_cons_succ, List.set_cons_zero]
 rw [e14, e5]
 clear e14 e5
 have hmm := Lib.hid hmm'
 clear hmm'
 have hmo := Lib.hid hmo'
 clear hmo'
 have HM15 := Lib.hid hm
 clear hm
 refine wp_seq (wQ ?_)
 refine wp_seq ?_
 refine wp_cond_split rfl (fun h16 => ?_) (fun h16 => ?_)
 ·have hk1 : k + 1 ≤ D.length := by have : (k : Int) < ((D.length : Nat) : Int) := (by simpa using h16); omega
  clear h16
  obtain ⟨x, hx'⟩ : ∃ y, D[k]? = some y := ⟨_, List.getElem?_eq_getElem (hk1)⟩
  have hx := Lib.hid hx'
  clear hx'
  refine wp_skip (then_normal (wp_seq (wp_block (wp_seq (wN [(0, 1), (1, 1), (2, 1)] ?_)))))
  refine wI elemPr 0 (HM15.out.row 1 rfl vRow) (bksR_at hx.out) fun eb17 eo18 hc19 => ?_
  refine wM 1 (.pointer (some ⟨x.b, 0, none⟩)) (hc19 0 _ rfl) Tryz.underlying124 ?_
  refine wT [2] ?_
  refine wZ (wp_seq ?_)
  have hat := hG.at_ x.o (by rw [← hDo.out]; exact List.mem_map.2 ⟨x, List.mem_of_getElem? hx.out, rfl⟩)
  rcases Int.lt_or_le (G.ticks - x.o.at_) 2 with hlt | hge2
  ·have ho : Hid (oldO G.ticks x.o = false) := Lib.hid (decide_eq_false (by omega))
   have g1 : decide ((2 : Int) ≤ G.ticks - x.o.at_) = false := decide_eq_false (by omega)
   obtain ⟨xs, hh', hp', HS20⟩ := Mem.gh (Mem.only (M := [_, _, _, _, _, _]) HM15.out [2, 0, 0, 0, 0, 0] rfl)
   have hh := Lib.hid hh'
   clear hh'
   have hp := Lib.hid hp'
   clear hp'
   have HM21 := Lib.hid HS20
   clear HS20
   obtain ⟨p, m, HS22⟩ := Mem.gq (Mem.only (M := [_, _, _, _, _, _]) HM21.out [0, 0, 0, 0, 0, 0] rfl)
   have HM23 := Lib.hid HS22
   clear HS22
   refine wp_region_M (fun k => k ∈ ([] : List Nat)) [(0, 1), (1, 1), (2, 1), (3, 1), (4, 1), (5, 1), (6, 1), (7, 1), (8, 1), (9, 1)] (by kernel_rfl) (by kernel_rfl) HM23.out ?_
   intro W24 hm25
   have HM26 := Lib.hid hm25
   clear hm25
   have Cbx := Mem.cell HM26.out 0 rfl
   refine wT [0, 1, 2, 3, 4, 5, 6] ?_
   clear Cbx
   refine wM 7 (.int .i64 x.o.at_) (Mem.pcCell HM26.out 5 rfl (agedTo_mem hx.out) 11 pcC_at) Tryz.underlying3 ?_
   refine wT [8, 9] ?_
   refine wZ (wp_cond_false rfl (wp_skip (block_normal (then_normal ?_))))
   have HS27 := Mem.toGh hh.out hp.out (Mem.toGq rfl (Mem.only (M := [_, _, _, _, _, _, _]) HM26.out [0, 0, 0, 0, 0, 0, 0] rfl))
   have HM28 := Lib.hid HS27
   clear HS27
   refine wQ ?_
   refine ⟨by kernel_rfl, ?_⟩
   exact ⟨D.length - (k + 1), by omega, k + 1, rs, ms, pm, cm, rfl, rfl, rfl, hk1, (by rw [hmm.out, tellTo_next hx.out, if_neg (by rw [ho.out]; decide), List.append_nil]), hmo.out, Nat.le_succ_of_le hml, by rw [agedTo_skip hx.out ho.out]; exact (Mem.only (M := [_, _, _, _, _, _]) HM28.out [1, 1, 0, 0, 0, 0] rfl)⟩
  ·have ho : Hid (oldO G.ticks x.o = true) := Lib.hid (decide_eq_true (by omega))
   have g1 : decide ((2 : Int) ≤ G.ticks - x.o.at_) = true := decide_eq_true (by omega)
   obtain ⟨xs, hh', hp', HS29⟩ := Mem.gh (Mem.only (M := [_, _, _, _, _, _]) HM15.out [2, 0, 0, 0, 0, 0] rfl)
   have hh := Lib.hid hh'
   clear hh'
   have hp := Lib.hid hp'
   clear hp'
   have HM30 := Lib.hid HS29
   clear HS29
   obtain ⟨p, m, HS31⟩ := Mem.gq (Mem.only (M := [_, _, _, _, _, _]) HM30.out [0, 0, 0, 0, 0, 0] rfl)
   have HM32 := Lib.hid HS31
   clear HS31
   refine wp_region_M (fun k => k ∈ ([] : List Nat)) [(0, 1), (1, 1), (2, 1), (3, 1), (4, 1), (5, 1), (6, 1), (7, 1), (8, 1), (9, 1)] (by kernel_rfl) (by kernel_rfl) HM32.out ?_
   intro W33 hm34
   have HM35 := Lib.hid hm34
   clear hm34
   have Cbx := Mem.cell HM35.out 0 rfl
   refine wT [0, 1, 2, 3, 4, 5, 6] ?_
   clear Cbx
   refine wM 7 (.int .i64 x.o.at_) (Mem.pcCell HM35.out 5 rfl (agedTo_mem hx.out) 11 pcC_at) Tryz.underlying3 ?_
   refine wT [8, 9] ?_
   refine wZ (wp_cond_true rfl ?_)
   have HS36 := Mem.pcOpen (agedTo_open hx.out) (Mem.only (M := [_, _, _, _, _, _, _]) HM35.out [5, 0, 0, 0, 0, 0, 0] rfl)
   have HM37 := Lib.hid HS36
   clear HS36
   refine wN [(0, 1), (1, 1), (2, 1), (3, 3), (4, 3), (5, 3), (6, 1)] (wT [0, 1, 2] ?_)
   refine wU2 3 [_, _, _, _, _] Tryz.call86 (gsend_d g c G (.slice p xs.length m) x (listT (rs ++ [A])) (reads_la (hDr.out x (List.mem_of_getElem? hx.out)).1) (Nat.le_trans (hDr.out x (List.mem_of_getElem? hx.out)).2 (by decide))) HM37 [2, 0, 5] fun u40 W39 hm38 => ?_
   obtain ⟨pq, cq, rfl, hm38q⟩ := Mem.sent hm38
   clear hm38
   have HM41 := Lib.hid hm38q
   clear hm38q
   refine wpS_build1 elemMx (i := 4) (dd := 32) (y := mxOf (giveM G x.o) pq cq) rfl (by rfl) rfl rfl rfl (by decide) HM41.out covS_nil rfl ?_
   rintro b44 W45 hm46 -
   have HM47 := Lib.hid hm46
   clear hm46
   simp only [Act.put, List.setIfInBounds_toArray, List.set_cons_succ, List.set_cons_zero]
   refine wpS_append (E := elemMx) (i := 5) (d := some 33) (L2 := [_, _, _, _, _, _, _, _, _]) rfl (by rfl) rfl HM47.out 7 rfl rfl (HM47.out.src 0 rfl rowT_reads) rfl (by show (_ + 1) * 552 ≤ 140737488355328; omega) rfl covS_nil rfl ?_
   rintro u50 W51 hm52 -
   have HM53 := Lib.hid hm52
   clear hm52
   simp only [Act.put, List.setIfInBounds_toArray, List.set_cons_succ, List.set_cons_zero]
   obtain ⟨up, uc, hup⟩ := row_form (Mem.src HM53.out 0 rfl rowT_reads)
   subst hup
   refine wT [6] ?_
   refine wpS_nil (block_normal (then_normal ?_))
   have HS54 := Mem.pcPerm (agedTo_shut hx.out) (Mem.pcClose (x := agX G.ticks x) (m := agedR G.ticks D k) (by rw [show agX G.ticks x = setAt G.ticks x from if_pos ho.out]; exact (Mem.only (M := [_, _, _, _, _, _, _, _, _, _]) HM53.out [4, 5, 0, 0, 0, 0, 0, 0, 0, 0] rfl)))
   have HM55 := Lib.hid HS54
   clear HS54
   have HS56 := Mem.intoL (Mem.only (M := [_, _, _, _, _, _, _, _, _]) HM55.out [3, 4, 0, 0, 0, 0, 0, 0, 0] rfl)
   have HM57 := Lib.hid HS56
   clear HS56
   have HS58 := Mem.toGh hh.out hp.out (Mem.toGq rfl (Mem.only (M := [_, _, _, _, _, _, _, _]) HM57.out [4, 4, 0, 0, 0, 0, 0, 0] rfl))
   have HM59 := Lib.hid HS58
   clear HS58
   refine wQ ?_
   refine ⟨by kernel_rfl, ?_⟩
   exact ⟨D.length - (k + 1), by omega, k + 1, _ :: rs, _, up, uc, rfl, rfl, rfl, hk1, (by rw [List.map_append, hmm.out, tellTo_next hx.out, if_pos ho.out]; rfl), (fun z hz => (List.mem_append.1 hz).elim (fun hz => own_cl (hmo.out z hz)) (fun hz => by rw [List.mem_singleton.1 hz]; exact own_new)), (by rw [List.length_append, List.length_singleton]; omega), (Mem.only (M := [_, _, _, _, _, _]) HM59.out [3, 4, 0, 3, 1, 0] rfl)⟩
 ·have hge : Hid (D.length ≤ k) := Lib.hid (by have : ¬ (k : Int) < ((D.length : Nat) : Int) := (by simpa using h16); omega)
  clear h16
  refine wp_exit ?_
  refine then_exit (then_exit (block_exit ?_))
  refine then_normal (wp_seq (wQ ?_))
  refine wp_ret (bodyPost_ret (results_tmp rfl _ _ _) rfl ?_)
  obtain rfl : k = D.length := by have := hge.out; omega
  have h3 := Mem.toGv (A := listT (rs ++ [A])) (G := reG G) (D := D.map (agX G.ticks)) (map_ag hDo.out) (fun x hx => by obtain ⟨z, hz, rfl⟩ := List.mem_map.1 hx; obtain ⟨e1, e2⟩ := agX_rd G.ticks z; rw [e1, e2]; exact ⟨reads_la (hDr.out z hz).1, (hDr.out z hz).2⟩) (Mem.ghSame (D := D) (D' := D.map (agX G.ticks)) (by rw [List.map_map]; exact List.map_congr_left fun x _ => agX_kq _ x) (by have h := (Mem.only (M := [_, _, _, _, _]) HM15.out [2, 2, 2, 0, 1] rfl); rw [agedTo_end (Nat.le_refl _), ← gh_reG] at h; exact h))
  exact doesU_ret (post := fun u => [gtT g A u (reG G) ((G.out.filter (oldO G.ticks)).map (giveM G))]) (Mem.toGt (hmm.out.trans (tellTo_end hDo.out (Nat.le_refl _))) hmo.out h3) rfl
end Go.Proofs.YtcchkkdbagpgjaaGreat
