/- The landed giver: a message is sent. -/
import Derived.Test.YtcchkkdbagpgjaaGreatGvQ
import Derived.Test.YtcchkkdbagpgjaaGreatPA
namespace Go.Proofs.YtcchkkdbagpgjaaGreat
open Go Go.RowKit Go.BigFrame
set_option maxHeartbeats 4000000 in
set_option maxRecDepth 100000 in
theorem gsend_d (g c : Nat) (G : Gv) (sl : Value) (x : Pz) (A : At) (hA : Reads elemV A x.sv x.o.b.v) (hl : x.o.b.v.length ≤ 4398046510976) : DoesU Tryz.prog 86 #[.pointer (some ⟨g, 0, none⟩), .pointer (some ⟨x.b, 0, none⟩)] [gvB g c G sl, pcT x, A] (fun u => [sentT u (giveM G x.o), gvB g c G sl, pcT (setAt G.ticks x), A]) := by
 intro w H hp
 have HM0 := Lib.hid (mem_refl hp)
 clear hp
 go_enter Tryz.func86, Tryz.ntmps86
 refine wp_seq (wN [(0, 3)] ?_)
 refine wpS_alloc (i := 0) (dd := 4) (z := msV noMs (.slice none 0 0) (.slice none 0 0) (.slice none 0 0)) (cs := (msC (noMs) (.slice none 0 0) (.slice none 0 0) (.slice none 0 0)).toArray) rfl (by rfl) rfl (by kernel_rfl) rfl HM0.out covS_nil rfl ?_
 rintro b3 W2 hm1 -
 have HM4 := Lib.hid hm1
 clear hm1
 simp only [Act.put, List.setIfInBounds_toArray, List.set_cons_succ, List.set_cons_zero]
 refine wZ (wp_seq (wN [(0, 1), (1, 1), (2, 1), (3, 1), (4, 1), (5, 1), (6, 1), (7, 3)] ?_))
 have Cbx := Mem.cell HM4.out 1 rfl
 refine wT [0, 1, 2, 3, 4, 5, 6] ?_
 clear Cbx
 refine wpS_store1 (i := 7) (v := .int .i64 (G.ticks)) (L2 := [_, _, _]) (cs' := pcC (⟨x.o.seq, x.o.key, x.o.b, G.ticks⟩ : Ot) (x.sv)) rfl (by rfl) rfl rfl rfl rfl (by kernel_rfl) rfl HM4.out 2 rfl rfl (by kernel_rfl) (pcC_setAt _) covS_nil rfl ?_
 rintro W6 hm5 -
 have HM7 := Lib.hid hm5
 clear hm5
 refine wZ (wp_seq (wN [(0, 1), (1, 3), (2, 3), (3, 3)] (wT [0] ?_)))
 refine wD2h 1 [_, _, _] [_, _, _, _] Tryz.call89 (gmsg_d g c G sl 5) HM7 [2] fun W9 HM10 => ?_
 refine wpS_alloc (i := 2) (dd := 5) (z := msV noMs (.slice none 0 0) (.slice none 0 0) (.slice none 0 0)) (cs := (msC (noMs) (.slice none 0 0) (.slice none 0 0) (.slice none 0 0)).toArray) rfl (by rfl) rfl (by kernel_rfl) rfl HM10.out covS_nil rfl ?_
 rintro b13 W12 hm11 -
 have HM14 := Lib.hid hm11
 clear hm11
 simp only [Act.put, List.setIfInBounds_toArray, List.set_cons_succ, List.set_cons_zero]
 refine wpS_storeA (i := 3) (L2 := [_, _, _, _]) (cs' := msC (⟨5, G.self, G.dst, 0, 0, 0, G.part, G.epoch, ⟨#[]⟩, noB, noR⟩) (.slice none 0 0) (.slice none 0 0) (.slice none 0 0)) rfl (by rfl) rfl rfl rfl (by kernel_rfl) (msC_one _ _ _ _ _ _ _ _ _) HM14.out 0 rfl rfl (by kernel_rfl) (by kernel_rfl) covS_nil rfl ?_
 rintro W16 hm15 -
 have HM17 := Lib.hid hm15
 clear hm15
 refine wZ (wp_seq ?_)
 refine wp_region_M (fun k => k ∈ ([x.b] : List Nat)) [(0, 1), (1, 1), (2, 1), (3, 1), (4, 0), (5, 0), (6, 0), (7, 0), (8, 2), (9, 0), (10, 0), (11, 0), (12, 0), (13, 2), (14, 1), (15, 3), (16, 1), (17, 3), (18, 1), (19, 3)] (by kernel_rfl) (by kernel_rfl) HM17.out ?_
 intro W18 hm19
 have HM20 := Lib.hid hm19
 clear hm19
 refine wT [0, 1, 2] ?_
 refine wM 3 (.int .i64 (⟨x.o.seq, x.o.key, x.o.b, G.ticks⟩ : Ot).seq) (HM20.out.part1 2 rfl pcC_seq) Tryz.underlying3 ?_
 refine wA [4, 5, 6, 7] ?_
 refine wM2 8 (.string (⟨x.o.seq, x.o.key, x.o.b, G.ticks⟩ : Ot).key) (HM20.out.part1 2 rfl pcC_key) Tryz.underlying9 ?_
 refine wA [9, 10, 11, 12] ?_
 refine wL2 13 (bgC (⟨x.o.seq, x.o.key, x.o.b, G.ticks⟩ : Ot).b.k (x.sv)) (HM20.out.part 2 rfl (pcC_bag)) Tryz.underlying41 ?_
 refine wT [14] ?_
 refine wpS_store1 (i := 15) (v := .int .i64 (x.o.seq)) (L2 := [_, _, _, _]) (cs' := msC (⟨5, G.self, G.dst, x.o.seq, 0, 0, G.part, G.epoch, ⟨#[]⟩, noB, noR⟩) (.slice none 0 0) (.slice none 0 0) (.slice none 0 0)) rfl (by rfl) rfl rfl rfl rfl (by kernel_rfl) rfl HM20.out 0 rfl rfl (by kernel_rfl) (msC_setSeq _) (covS_box 1 rfl covS_nil) rfl ?_
 rintro W22 hm21 hg23
 have HM24 := Lib.hid hm21
 clear hm21
 refine wT [16] ?_
 refine wpS_store1 (i := 17) (v := .string (x.o.key)) (L2 := [_, _, _, _]) (cs' := msC (⟨5, G.self, G.dst, x.o.seq, 0, 0, G.part, G.epoch, x.o.key, noB, noR⟩) (.slice none 0 0) (.slice none 0 0) (.slice none 0 0)) rfl (by rfl) rfl rfl rfl rfl (by kernel_rfl) rfl HM24.out 0 rfl rfl (by kernel_rfl) (msC_setKey _) (covS_box 1 rfl covS_nil) rfl ?_
 rintro W26 hm25 hg27
 have HM28 := Lib.hid hm25
 clear hm25
 refine wT [18] ?_
 refine wpS_storeA (i := 19) (L2 := [_, _, _, _]) (cs' := msC (⟨5, G.self, G.dst, x.o.seq, 0, 0, G.part, G.epoch, x.o.key, x.o.b, noR⟩) (x.sv) (.slice none 0 0) (.slice none 0 0)) rfl (by rfl) rfl rfl rfl (by kernel_rfl) (by rfl) HM28.out 0 rfl rfl (by kernel_rfl) (msC_setBag (x.o.b) (x.sv)) (covS_box 1 rfl covS_nil) rfl ?_
 rintro W30 hm29 hg31
 have HM32 := Lib.hid hm29
 clear hm29
 refine wZ (wp_seq (wN [(0, 1), (1, 1), (2, 1), (3, 3), (4, 1), (5, 1), (6, 3)] (wT [0, 1] ?_)))
 refine wM 2 x.sv (HM32.out.part1 0 rfl msC_vals) Tryz.underlying39 ?_
 refine wU1 3 [_, _, _, _] Tryz.call77 (vclone_d A _ x.o.b.v hA hl) HM32 [4] fun u35 W34 hm33 => ?_
 obtain ⟨pq, cq, rfl⟩ := row_form (Mem.src hm33 0 rfl rowT_reads)
 have HM36 := Lib.hid hm33
 clear hm33
 refine wT [4, 5] ?_
 refine wpS_store1 (i := 6) (v := .slice pq x.o.b.v.length cq) (L2 := [_, _, _, _, _]) (cs' := msC (⟨5, G.self, G.dst, x.o.seq, 0, 0, G.part, G.epoch, x.o.key, x.o.b, noR⟩) (.slice pq x.o.b.v.length cq) (.slice none 0 0) (.slice none 0 0)) rfl (by rfl) rfl rfl rfl rfl (by kernel_rfl) rfl HM36.out 2 rfl rfl (by kernel_rfl) (msC_setVals _) covS_nil rfl ?_
 rintro W38 hm37 -
 have HM39 := Lib.hid hm37
 clear hm37
 refine wZ (wp_seq (wN [(0, 1), (1, 3)] ?_))
 refine wL 0 (msC (⟨5, G.self, G.dst, x.o.seq, 0, 0, G.part, G.epoch, x.o.key, x.o.b, noR⟩) (.slice pq x.o.b.v.length cq) (.slice none 0 0) (.slice none 0 0)) (HM39.out.part 0 rfl (msC_all)) Tryz.underlying52 ?_
 refine wpS_storeA (i := 1) (L2 := [_, _, _, _, _]) (cs' := msC (⟨5, G.self, G.dst, x.o.seq, 0, 0, G.part, G.epoch, x.o.key, x.o.b, noR⟩) (.slice pq x.o.b.v.length cq) (.slice none 0 0) (.slice none 0 0)) rfl (by rfl) rfl rfl rfl (by kernel_rfl) (msC_one _ _ _ _ _ _ _ _ _) HM39.out 5 rfl rfl (by kernel_rfl) (by kernel_rfl) covS_nil rfl ?_
 rintro W41 hm40 -
 have HM42 := Lib.hid hm40
 clear hm40
 refine wZ (wp_ret ?_)
 refine ret_cell rfl HM42.out 0 rfl rfl Tryz.underlying52 rfl (by kernel_rfl) rfl ?_
 exact doesU_ret (post := fun u => [sentT u (giveM G x.o), gvB g c G sl, pcT (setAt G.ticks x), A]) (Mem.toSent (Mem.only (M := [_, _, _, _]) HM42.out [2, 3, 3, 2] rfl)) rfl
end Go.Proofs.YtcchkkdbagpgjaaGreat
