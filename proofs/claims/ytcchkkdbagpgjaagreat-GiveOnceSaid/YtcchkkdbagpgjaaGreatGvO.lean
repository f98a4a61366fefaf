/- Givers: GiveOnce. -/
import Derived.Test.YtcchkkdbagpgjaaGreatGvT
import Derived.Test.YtcchkkdbagpgjaaGreatGvE
import Derived.Test.YtcchkkdbagpgjaaGreatQ15
import Derived.Test.YtcchkkdbagpgjaaGreatPA
namespace Go.Proofs.YtcchkkdbagpgjaaGreat
open Go Go.RowKit Go.BigFrame
theorem fill_seq (S : Vt) : ∀ (n : Nat) (G : Gv), (fillG S n G).1.seq ≤ G.seq + n
 | 0, G => by show G.seq ≤ _; omega
 | n + 1, G => by
  unfold fillG
  obtain ⟨F, o, hn⟩ : ∃ F o, nextF G.F (keysV S G.F.part) = (F, o) := ⟨_, _, rfl⟩
  rw [hn]
  cases o with
  | none => show G.seq ≤ _; omega
  | some k =>
   have h1 := fill_seq S n ⟨G.self, G.part, G.epoch, G.dst, F, G.seq + 1, G.ticks, G.ends, G.out ++ [⟨G.seq + 1, k, bagV S k, G.ticks⟩]⟩
   have h2 : (fillG S n ⟨G.self, G.part, G.epoch, G.dst, F, G.seq + 1, G.ticks, G.ends, G.out ++ [⟨G.seq + 1, k, bagV S k, G.ticks⟩]⟩).1.seq ≤ G.seq + 1 + n := h1
   show (fillG S n ⟨G.self, G.part, G.epoch, G.dst, F, G.seq + 1, G.ticks, G.ends, G.out ++ [⟨G.seq + 1, k, bagV S k, G.ticks⟩]⟩).1.seq ≤ _
   omega
theorem first_seq {S : Vt} {ep P : Int} {G : Gv} {f : List Ms} (h : tickG (newG 0 P ep 1) S = (G, f)) : G.seq ≤ 4 := by
 have h1 : (fillT (newG 0 P ep 1) S).1.seq ≤ 0 + 4 := fill_seq S 4 (agedG (newG 0 P ep 1))
 unfold tickG at h
 split at h
 ·cases h
  exact h1
 ·cases h
  exact h1
structure On (Y : Vl2) (k : ByteArray) : Prop where
 kept : Kept Y
 bl : Y.1.b.length ≤ 3000
 ks : keysV Y.1 (pK k : Int) = [k]
 v : (bagV Y.1 k).v.length = 1
theorem once_put {k : ByteArray} (hk : keyB k = true) : ∃ (Y : Vl2) (d : En), putV (playD (newL 9).l, newL 9) 0 k (fun _ => 0) kV20 = (Y, d, 0) ∧ On Y k := by
 have h0 : Kept (playD (newL 9).l, newL 9) := Kept.open (LgOk.new 9)
 have h1 := put_new h0 (k := k) (t := kV20) hk (by decide) (by decide) (by decide) rfl (by decide)
 have hK := h0.put 0 k (fun _ => 0) kV20
 rw [h1] at hK
 refine ⟨_, _, h1, hK, ?_, ?_, ?_⟩
 ·have := hK.len
  exact Nat.le_trans this (show 1 ≤ 3000 by decide)
 ·refine keys_ext (keysV_srt hK.ok.srt _) (List.pairwise_singleton _ _) fun q => ?_
  rw [mem_keysV, ← hasK_iff hK.ok.srt, List.mem_singleton]
  show hasK (countD _ (kbD _ k _)) q = true ∧ _ ↔ _
  rw [hasK_put (d := kbD _ k _) rfl, Bool.or_eq_true, decide_eq_true_eq]
  constructor
  ·rintro ⟨h | h, _⟩
   ·cases h
   ·exact h
  ·rintro rfl
   exact ⟨.inr rfl, (pK_of hk).symm⟩
 ·show (bagV (countD _ (kbD _ k _)) k).v.length = 1
  rw [bag_count (d := kbD _ k _) rfl, if_pos (show k = (kbD _ k _).key from rfl)]
  show (xB _ kV20).v.length = 1
  unfold xB
  rw [put_len]
  rfl
section
variable {W : World} {a : Act} {o : Oper}
theorem run_addS {x y : Operand} {tt : TypeId} {s t u : ByteArray} (hn : s.size + t.size ≤ 9223372036854775807) (hu : s ++ t = u) (ho : o.op = .binOp .add 9 x y tt) (hx : a.eval x = .string s) (hy : a.eval y = .string t) : (execOp a.eval o).run Tryz.prog W = .ok (.value (.string u)) W := by
 subst hu
 have hg : (eqGuard .add 9 x y (.string s) (.string t)).run Tryz.prog W = .ok () W := by simp [eqGuard, go_sem]
 unfold execOp
 simp only [ho, hx, hy, Sem.run_bind, hg, Result.andThen_ok, binOp_string_add, run_string_add_sum W s t hn]
 rfl
end
theorem On.one {Y : Vl2} {k : ByteArray} (h : On Y k) {ep : Int} {G : Gv} {f : List Ms} (ht : tickG (newG 0 (pK k : Int) ep 1) Y.1 = (G, f)) {o : Ot} (hm : giveM G o ∈ f) : o.b.v.length = 1 ∧ o.key = k := by
 obtain ⟨h1, h2⟩ := first_bags ht _ hm rfl
 rw [h.ks, List.mem_singleton] at h2
 refine ⟨?_, h2⟩
 have h3 : o.b = bagV Y.1 k := by
  rw [← h2]
  exact h1
 rw [h3]
 exact h.v
theorem same_noB {b : Bg} (h : b.v.length = 1) : sameB b noB = false := Bool.eq_false_iff.2 fun e => by
 rw [(sameB_iff.1 e).2] at h
 cases h
theorem mod_six (n : Int) : ∃ z : Int, (IntKind.u64.wrap n).tmod 6 = z ∧ (z = 0 ∨ z = 1 ∨ z = 2 ∨ z = 3 ∨ z = 4 ∨ z = 5) := by
 obtain ⟨m, hm⟩ := u64_letter n
 rw [hm, Int.tmod_eq_emod_of_nonneg (by omega)]
 exact ⟨_, rfl, by omega⟩
theorem key_more (k : ByteArray) : k ++ ⟨#[120]⟩ ≠ k := fun h => by
 have := congrArg ByteArray.size h
 rw [ByteArray.size_append] at this
 have h2 : (⟨#[120]⟩ : ByteArray).size = 1 := rfl
 omega
set_option maxHeartbeats 4000000 in
set_option maxRecDepth 100000 in
theorem gonce_d (k how : Int) (x0 : Mx) : Does Tryz.prog 7 #[.int .i64 k, .int .i64 how, .agg x0.enc.toArray] [] (.bool true) [] := by
 intro w H hp
 have HM0 := Lib.hid (mem_refl hp)
 clear hp
 go_enter Tryz.func7, Tryz.ntmps7
 refine wp_seq (wN [(0, 3), (1, 1)] ?_)
 refine wBh 0 HM0 fun b3 W2 HM4 => ?_
 refine wT [1] ?_
 refine wZ (wp_seq (wp_seq ?_))
 cases hl' : litGv [(⟨0, 0, 0, x0⟩ : Cx)]
 ·have hl := Lib.hid hl'
  clear hl'
  refine wN [(0, 1), (1, 1), (2, 3), (3, 3), (4, 1)] ?_
  refine wL 0 (msC (x0.m) (.slice x0.vp x0.vn x0.vc) (.slice x0.rp x0.rn x0.rc) (.slice x0.cp x0.cn x0.cc)) (HM4.out.part 0 rfl (msC_all)) Tryz.underlying52 ?_
  refine wR 1 (v := .agg (cxC (⟨0, 0, 0, x0⟩ : Cx)).toArray) (by kernel_rfl) ?_
  refine wpS_buildN elemCx (i := 2) (dd := 15) (n := 1) (xs := [(⟨0, 0, 0, x0⟩ : Cx)]) (cs := (cxC (⟨0, 0, 0, x0⟩ : Cx) ++ []).toArray) rfl (by rfl) (fun _ => by kernel_rfl) rfl rfl HM4.out covS_nil rfl ?_
  rintro b7 W8 hm9 -
  have HM10 := Lib.hid hm9
  clear hm9
  simp only [Act.put, List.setIfInBounds_toArray, List.set_cons_succ, List.set_cons_zero]
  refine wD1 3 [_] [_, _] Tryz.call9 (glight_d (rowT elemCx _ _) _ _ (fun W H h => rowAt_src (rowT_reads W H h))) HM10 [0] fun W12 hm11 => ?_
  rw [hl.out]
  have HM13 := Lib.hid hm11
  clear hm11
  refine wT [4] ?_
  refine wZ (wp_cond_true rfl (wp_seq (wN [(0, 3), (1, 1)] ?_)))
  refine wD0h 0 [_, _] [_, _] Tryz.call10 (gawake_d) HM13 [] fun W15 HM16 => ?_
  refine wT [1] ?_
  refine wZ (wp_ret (then_ret (bodyPost_ret (results_tmp rfl _ _ _) rfl ?_)))
  exact does_ret (Mem.only (M := []) HM16.out [] rfl) rfl rfl
 ·have hl := Lib.hid hl'
  clear hl'
  refine wN [(0, 1), (1, 1), (2, 3), (3, 3), (4, 1)] ?_
  refine wL 0 (msC (x0.m) (.slice x0.vp x0.vn x0.vc) (.slice x0.rp x0.rn x0.rc) (.slice x0.cp x0.cn x0.cc)) (HM4.out.part 0 rfl (msC_all)) Tryz.underlying52 ?_
  refine wR 1 (v := .agg (cxC (⟨0, 0, 0, x0⟩ : Cx)).toArray) (by kernel_rfl) ?_
  refine wpS_buildN elemCx (i := 2) (dd := 15) (n := 1) (xs := [(⟨0, 0, 0, x0⟩ : Cx)]) (cs := (cxC (⟨0, 0, 0, x0⟩ : Cx) ++ []).toArray) rfl (by rfl) (fun _ => by kernel_rfl) rfl rfl HM4.out covS_nil rfl ?_
  rintro b19 W20 hm21 -
  have HM22 := Lib.hid hm21
  clear hm21
  simp only [Act.put, List.setIfInBounds_toArray, List.set_cons_succ, List.set_cons_zero]
  refine wD1 3 [_] [_, _] Tryz.call9 (glight_d (rowT elemCx _ _) _ _ (fun W H h => rowAt_src (rowT_reads W H h))) HM22 [0] fun W24 hm23 => ?_
  rw [hl.out]
  have HM25 := Lib.hid hm23
  clear hm23
  refine wT [4] ?_
  refine wZ (wp_cond_false rfl (wp_skip (then_normal (wp_seq (wN [(0, 3), (1, 3), (2, 1)] ?_)))))
  refine wU1 0 [_, _] Tryz.call12 (lnew_d 9) HM25 [] fun u28 W27 hm26 => ?_
  obtain ⟨dl, rfl, hm26q⟩ := Mem.lgN hm26
  clear hm26
  have HM29 := Lib.hid hm26q
  clear hm26q
  refine wU1 1 [_, _] Tryz.call11 (vopen_d dl (newL 9) (LgOk.new 9)) HM29 [0] fun u32 W31 hm30 => ?_
  obtain ⟨dv, rfl, hm30q⟩ := Mem.vtN hm30
  clear hm30
  have HM33 := Lib.hid hm30q
  clear hm30q
  refine wT [2] ?_
  refine wZ (wp_seq (wN [(0, 1), (1, 3), (2, 1)] (wT [0] ?_)))
  refine wD1h 1 [_, _, _, _] [_, _, _, _] Tryz.call17 (key_d k) HM33 [] fun W35 HM36 => ?_
  refine wT [2] ?_
  refine wZ (wp_seq ?_)
  obtain ⟨Y, dd, hpv', hY'⟩ := once_put (keyN_key k)
  have hpv := Lib.hid hpv'
  clear hpv'
  have hY := Lib.hid hY'
  clear hY'
  refine wN [(0, 1), (1, 1), (2, 1), (3, 3)] (wT [0, 1] ?_)
  refine wR 2 (v := vV (fun _ => 0)) (by kernel_rfl) ?_
  refine wD5h 3 [_, _] [_, _, _, _] Tryz.call27 (vput_e (Kept.open (LgOk.new 9)) hpv.out) HM36 [0, 0] fun W38 HM39 => ?_
  refine wZ (wp_seq ?_)
  have hpk := pK_lt (keyN_key k)
  have hmay : Hid (mayG 0 (pK (keyN k) : Int) 3 1) := Lib.hid ⟨by decide, by decide, by decide, ⟨by omega, by omega⟩, by decide⟩
  obtain ⟨G1, fm, htk', hA', ht1⟩ := Ag.first (ep := 3) (P := (pK (keyN k) : Int)) (by decide) ⟨by omega, by omega⟩ hY.out.ks (List.pairwise_singleton _ _) (Nat.le_refl 1)
  clear ht1
  have hfew := Lib.hid (first_few hY.out.kept.ok htk' hA')
  replace hA' : Ag 3 (pK (keyN k) : Int) [keyN k] fm 1 G1 1 := hA'
  have htk := Lib.hid htk'
  clear htk'
  have hA := Lib.hid hA'
  clear hA'
  refine wN [(0, 1), (1, 3), (2, 3), (3, 1)] (wT [0] ?_)
  refine wD1h 1 [_, _, _, _] [_, _, _, _] Tryz.call36 (spof_d (keyN k) (keyN_key k)) HM39 [] fun W41 HM42 => ?_
  refine wU4 2 [_, _, _, _] Tryz.call15 (gvnew_d 0 (pK (keyN k) : Int) 3 1 hmay.out) HM42 [] fun u45 W44 hm43 => ?_
  obtain ⟨g, rfl, hm43q⟩ := Mem.gvN hm43
  clear hm43
  have HM46 := Lib.hid hm43q
  clear hm43q
  refine wT [3] ?_
  refine wZ (wp_seq (wN [(0, 1), (1, 1), (2, 3), (3, 1)] (wT [0, 1] ?_)))
  refine wpS_doesU2 (i := 2) (d := some 32) (rem := [_, _, _]) rfl (by rfl) rfl Tryz.call19 (gtick_e (GvOk.new hmay.out) hY.out.kept.ok hY.out.bl (show (0 : Int) < 1000000 by decide) htk.out) rfl rfl HM46.out [0, 0, 0] rfl covS_nil (fun _ => rfl) rfl ?_
  rintro u49 W48 hm47 -
  obtain ⟨rs, hm47a⟩ := Mem.gt hm47
  clear hm47
  obtain ⟨xs, pm, cm, rfl, hxsm', hxso', hm47q⟩ := Mem.tells hm47a
  clear hm47a
  have hxsm := Lib.hid hxsm'
  clear hxsm'
  have hxso := Lib.hid hxso'
  clear hxso'
  obtain ⟨x, rfl⟩ : ∃ x, xs = [x] := List.length_eq_one_iff.1 (by have h := congrArg List.length hxsm.out; rwa [List.length_map, hA.out.flen] at h)
  have hxf : Hid (fm = [x.m]) := Lib.hid hxsm.out.symm
  have hxm : x ∈ [x] := List.mem_cons_self
  have hxo := Lib.hid (hxso.out x hxm)
  clear hxso hxm
  obtain ⟨o, ho', hfo⟩ := hA.out.one
  have hx : Hid (x.m = giveM G1 o) := Lib.hid (List.cons.inj (hxf.out.symm.trans hfo)).1
  clear hfo
  have ho := Lib.hid ho'
  clear ho'
  have hlm : Hid (x.m.b.v.length ≤ 4398046510976) := Lib.hid (few_of hxsm.out hfew.out List.mem_cons_self)
  clear hxsm
  have hpt : Hid (x.m.part = (pK (keyN k) : Int)) := Lib.hid (by rw [hx.out]; exact hA.out.is.2.1)
  have hep : Hid (x.m.epoch = 3) := Lib.hid (by rw [hx.out]; exact hA.out.is.2.2.1)
  have hsq : 0 ≤ x.m.seq ∧ x.m.seq ≤ 4 := by rw [hx.out]; have h1 := hA.out.ok.seq o (by rw [ho.out]; exact List.mem_cons_self); have h2 := first_seq htk.out; exact ⟨by show 0 ≤ o.seq; omega, by show o.seq ≤ 4; omega⟩
  obtain ⟨hsq1, hsq2⟩ := hsq
  have hb1 := Lib.hid (hY.out.one htk.out (o := o) (by rw [← hx.out, hxf.out]; exact List.mem_cons_self))
  have hk33 : Hid (x.m.key.size + (⟨#[120]⟩ : ByteArray).size ≤ 9223372036854775807) := Lib.hid (by rw [hx.out]; show o.key.size + 1 ≤ _; rw [hb1.out.2]; have := keyB_size (keyN_key k); omega)
  obtain ⟨G2, hg1', hg2', hg3', _, _, hg6'⟩ := hA.out.got (m := x.m) (by rw [hxf.out]; rfl)
  have hg1 := Lib.hid hg1'
  clear hg1'
  have hg2 := Lib.hid hg2'
  clear hg2'
  have hg3 := Lib.hid hg3'
  clear hg3'
  have hg6 := Lib.hid hg6'
  clear hg6'
  have HM50 := Lib.hid hm47q
  clear hm47q
  simp only [Act.put, List.setIfInBounds_toArray, List.set_cons_succ, List.set_cons_zero]
  refine wT [3] ?_
  refine wZ (wp_seq (wp_seq (wQ ?_)))
  refine wp_cond_false rfl (wp_skip (then_normal (wp_seq (wN [(0, 1), (1, 1), (2, 1), (3, 3), (4, 3)] (wT [0] ?_)))))
  refine wI elemMx 1 (HM50.out.row 0 rfl vRow) ((rfl : [x][0]? = some x)) fun eb51 eo52 hc53 => ?_
  refine wL 2 (msC (x.m) (.slice x.vp x.vn x.vc) (.slice x.rp x.rn x.rc) (.slice x.cp x.cn x.cc)) hc53 Tryz.underlying52 ?_
  refine wpS_alloc (i := 3) (dd := 11) (z := msV noMs (.slice none 0 0) (.slice none 0 0) (.slice none 0 0)) (cs := (msC (noMs) (.slice none 0 0) (.slice none 0 0) (.slice none 0 0)).toArray) rfl (by rfl) rfl (by kernel_rfl) rfl HM50.out covS_nil rfl ?_
  rintro b56 W55 hm54 -
  have HM57 := Lib.hid hm54
  clear hm54
  simp only [Act.put, List.setIfInBounds_toArray, List.set_cons_succ, List.set_cons_zero]
  refine wpS_storeA (i := 4) (L2 := [_, _, _, _, _, _, _]) (cs' := msC (x.m) (.slice x.vp x.vn x.vc) (.slice x.rp x.rn x.rc) (.slice x.cp x.cn x.cc)) rfl (by rfl) rfl rfl rfl (by kernel_rfl) (msC_one _ _ _ _ _ _ _ _ _) HM57.out 0 rfl rfl (by kernel_rfl) (by kernel_rfl) covS_nil rfl ?_
  rintro W59 hm58 -
  have HM60 := Lib.hid hm58
  clear hm58
  refine wZ (wp_seq (wN [(0, 1), (1, 3), (2, 1), (3, 3), (4, 1), (5, 3)] (wT [0] ?_)))
  refine wpS_store1 (i := 1) (v := .int .i64 (6)) (L2 := [_, _, _, _, _, _, _]) (cs' := msC (⟨6, x.m.frm, x.m.dst, x.m.seq, x.m.re, x.m.abt, x.m.part, x.m.epoch, x.m.key, x.m.b, x.m.r⟩) (.slice x.vp x.vn x.vc) (.slice x.rp x.rn x.rc) (.slice x.cp x.cn x.cc)) rfl (by rfl) rfl rfl rfl rfl (by kernel_rfl) rfl HM60.out 0 rfl rfl (by kernel_rfl) (msC_setKind _) covS_nil rfl ?_
  rintro W62 hm61 -
  have HM63 := Lib.hid hm61
  clear hm61
  refine wT [2] ?_
  refine wpS_store1 (i := 3) (v := .int .i64 (1)) (L2 := [_, _, _, _, _, _, _]) (cs' := msC (⟨6, 1, x.m.dst, x.m.seq, x.m.re, x.m.abt, x.m.part, x.m.epoch, x.m.key, x.m.b, x.m.r⟩) (.slice x.vp x.vn x.vc) (.slice x.rp x.rn x.rc) (.slice x.cp x.cn x.cc)) rfl (by rfl) rfl rfl rfl rfl (by kernel_rfl) rfl HM63.out 0 rfl rfl (by kernel_rfl) (msC_setFrm _) covS_nil rfl ?_
  rintro W65 hm64 -
  have HM66 := Lib.hid hm64
  clear hm64
  refine wT [4] ?_
  refine wpS_store1 (i := 5) (v := .int .i64 (0)) (L2 := [_, _, _, _, _, _, _]) (cs' := msC (⟨6, 1, 0, x.m.seq, x.m.re, x.m.abt, x.m.part, x.m.epoch, x.m.key, x.m.b, x.m.r⟩) (.slice x.vp x.vn x.vc) (.slice x.rp x.rn x.rc) (.slice x.cp x.cn x.cc)) rfl (by rfl) rfl rfl rfl rfl (by kernel_rfl) rfl HM66.out 0 rfl rfl (by kernel_rfl) (msC_setDst _) covS_nil rfl ?_
  rintro W68 hm67 -
  have HM69 := Lib.hid hm67
  clear hm67
  refine wZ (wp_seq (wN [(0, 1), (1, 3), (2, 3)] ?_))
  refine wL 0 (msC (⟨6, 1, 0, x.m.seq, x.m.re, x.m.abt, x.m.part, x.m.epoch, x.m.key, x.m.b, x.m.r⟩) (.slice x.vp x.vn x.vc) (.slice x.rp x.rn x.rc) (.slice x.cp x.cn x.cc)) (HM69.out.part 0 rfl (msC_all)) Tryz.underlying52 ?_
  refine wpS_alloc (i := 1) (dd := 12) (z := msV noMs (.slice none 0 0) (.slice none 0 0) (.slice none 0 0)) (cs := (msC (noMs) (.slice none 0 0) (.slice none 0 0) (.slice none 0 0)).toArray) rfl (by rfl) rfl (by kernel_rfl) rfl HM69.out covS_nil rfl ?_
  rintro b72 W71 hm70 -
  have HM73 := Lib.hid hm70
  clear hm70
  simp only [Act.put, List.setIfInBounds_toArray, List.set_cons_succ, List.set_cons_zero]
  refine wpS_storeA (i := 2) (L2 := [_, _, _, _, _, _, _, _]) (cs' := msC (⟨6, 1, 0, x.m.seq, x.m.re, x.m.abt, x.m.part, x.m.epoch, x.m.key, x.m.b, x.m.r⟩) (.slice x.vp x.vn x.vc) (.slice x.rp x.rn x.rc) (.slice x.cp x.cn x.cc)) rfl (by rfl) rfl rfl rfl (by kernel_rfl) (msC_one _ _ _ _ _ _ _ _ _) HM73.out 0 rfl rfl (by kernel_rfl) (by kernel_rfl) covS_nil rfl ?_
  rintro W75 hm74 -
  have HM76 := Lib.hid hm74
  clear hm74
  refine wZ (wp_seq (wp_seq ?_))
  obtain ⟨z, hq6', hz'⟩ := mod_six how
  have hq6 := Lib.hid hq6'
  clear hq6'
  have hz := Lib.hid hz'
  clear hz'
  refine wN [(0, 1), (1, 1), (2, 1)] (wT [0, 1] ?_)
  refine wT [2] ?_
  rw [hq6.out]
  refine wZ (wp_block (wp_seq ?_))
  rcases hz.out with rfl | rfl | rfl | rfl | rfl | rfl
  ·have hgy : Hid (gotB G1 (⟨6, 1, 0, x.m.seq, x.m.re, x.m.abt, ((pK (keyN k) : Int) + 1) % 16, x.m.epoch, x.m.key, x.m.b, x.m.r⟩ : Ms) = false) := Lib.hid (hA.out.wrong ho.out (.inr (.inl (by show ((pK (keyN k) : Int) + 1) % 16 ≠ (pK (keyN k) : Int); omega))))
   refine wQ ?_
   refine wp_cond_true rfl (wN [(0, 1), (1, 1), (2, 1), (3, 1), (4, 1), (5, 3)] (wT [0] ?_))
   refine wM 1 (.int .i64 (pK (keyN k) : Int)) (HM76.out.part1 1 rfl ((msC_part).trans (congrArg (fun z => some (Value.int .i64 z)) hpt.out))) Tryz.underlying3 ?_
   refine wT [2, 3, 4] ?_
   refine wpS_store1 (i := 5) (v := .int .i64 (((pK (keyN k) : Int) + 1) % 16)) (L2 := [_, _, _, _, _, _, _, _]) (cs' := msC (⟨6, 1, 0, x.m.seq, x.m.re, x.m.abt, ((pK (keyN k) : Int) + 1) % 16, x.m.epoch, x.m.key, x.m.b, x.m.r⟩) (.slice x.vp x.vn x.vc) (.slice x.rp x.rn x.rc) (.slice x.cp x.cn x.cc)) rfl (by rfl) rfl rfl rfl rfl (by kernel_rfl) rfl HM76.out 0 rfl rfl (by kernel_rfl) (msC_setPart _) covS_nil rfl ?_
   rintro W78 hm77 -
   have HM79 := Lib.hid hm77
   clear hm77
   refine wpS_nil (block_normal (then_normal (wp_seq (wN [(0, 1), (1, 1), (2, 3), (3, 1), (4, 1), (5, 1), (6, 3), (7, 1), (8, 1), (9, 1), (10, 1), (11, 1), (12, 1), (13, 1), (14, 1), (15, 1), (16, 3), (17, 1), (18, 1), (19, 1), (20, 1), (21, 1), (22, 3), (23, 1), (24, 1), (25, 1), (26, 3), (27, 1), (28, 1), (29, 1), (30, 1), (31, 3), (32, 1), (33, 1)] (wT [0] ?_)))))
   refine wL 1 (msC (⟨6, 1, 0, x.m.seq, x.m.re, x.m.abt, ((pK (keyN k) : Int) + 1) % 16, x.m.epoch, x.m.key, x.m.b, x.m.r⟩) (.slice x.vp x.vn x.vc) (.slice x.rp x.rn x.rc) (.slice x.cp x.cn x.cc)) (HM79.out.part 0 rfl (msC_all)) Tryz.underlying52 ?_
   refine wD2h 2 [_, _, _, _, _, _, _] [_, _, _, _, _, _, _, _, _] Tryz.call23 (ggot_e (m := ⟨6, 1, 0, x.m.seq, x.m.re, x.m.abt, ((pK (keyN k) : Int) + 1) % 16, x.m.epoch, x.m.key, x.m.b, x.m.r⟩) hA.out.ok hgy.out (got_no hgy.out) hxo.out.rd hlm.out) HM79 [3, 3] fun W81 HM82 => ?_
   refine wT [3, 4, 5] ?_
   refine wU1 6 [_, _, _, _, _, _, _, _] Tryz.call29 (gout_e hA.out.ok rfl) HM82 [0] fun u85 W84 hm83 => ?_
   obtain ⟨poo1, coo1, rfl, hm83q⟩ := Mem.nums (n := 1) (show (seqsG G1).length = 1 by rw [seqsG, List.length_map]; exact hA.out.len) hm83
   clear hm83
   have HM86 := Lib.hid hm83q
   clear hm83q
   refine wT [7, 8, 9, 10, 11, 12] ?_
   refine wM 13 (.int .i64 (pK (keyN k) : Int)) (HM86.out.part1 4 rfl ((msC_part).trans (congrArg (fun z => some (Value.int .i64 z)) hpt.out))) Tryz.underlying3 ?_
   refine wR 14 (v := msV ⟨8, 1, 0, 0, 0, 0, (pK (keyN k) : Int), 3, ⟨#[]⟩, noB, noR⟩ (.slice none 0 0) (.slice none 0 0) (.slice none 0 0)) (by kernel_rfl) ?_
   refine wT [15] ?_
   refine wD3h 16 [_, _, _, _, _, _, _, _] [_, _, _, _, _, _, _, _, _, _] Tryz.call25 (gended_e (m := ⟨8, 1, 0, 0, 0, 0, (pK (keyN k) : Int), 3, ⟨#[]⟩, noB, noR⟩) (vp := none) (rp := none) (cp := none) (vn := 0) (vc := 0) (rn := 0) (rc := 0) (cn := 0) (cc := 0) hA.out.ok hY.out.kept.ok hY.out.bl (hA.out.not_ended _ _)) HM86 [1, 5] fun W88 HM89 => ?_
   refine wT [17, 18, 19, 20] ?_
   refine wL 21 (msC (⟨6, 1, 0, x.m.seq, x.m.re, x.m.abt, x.m.part, x.m.epoch, x.m.key, x.m.b, x.m.r⟩) (.slice x.vp x.vn x.vc) (.slice x.rp x.rn x.rc) (.slice x.cp x.cn x.cc)) (HM89.out.part 5 rfl (msC_all)) Tryz.underlying52 ?_
   refine wD2h 22 [_, _, _, _, _, _, _, _] [_, _, _, _, _, _, _, _, _, _] Tryz.call23 (ggot_e (m := ansM x.m) hA.out.ok hg1.out hg2.out hxo.out.rd hlm.out) HM89 [0, 2] fun W91 HM92 => ?_
   refine wT [23, 24, 25] ?_
   refine wU1 26 [_, _, _, _, _, _, _, _, _] Tryz.call29 (gout_e hg3.out rfl) HM92 [0] fun u95 W94 hm93 => ?_
   obtain ⟨poo2, coo2, rfl, hm93q⟩ := Mem.nums (n := 0) (by have h0 := hg6.out; omega) hm93
   clear hm93
   have HM96 := Lib.hid hm93q
   clear hm93q
   refine wT [27, 28, 29, 30] ?_
   refine wD0h 31 [_, _, _, _, _, _, _, _, _, _, _] [_, _, _, _, _, _, _, _, _, _, _] Tryz.call10 (gawake_d) HM96 [] fun W98 HM99 => ?_
   refine wT [32, 33] ?_
   refine wZ (wp_ret (bodyPost_ret (results_tmp rfl _ _ _) rfl ?_))
   exact does_ret (Mem.only (M := []) HM99.out [] rfl) rfl rfl
  ·have hgy : Hid (gotB G1 (⟨6, 1, 0, x.m.seq, x.m.re, x.m.abt, x.m.part, 4, x.m.key, x.m.b, x.m.r⟩ : Ms) = false) := Lib.hid (hA.out.wrong ho.out (.inr (.inr (.inl (by show (4 : Int) ≠ 3; decide)))))
   refine wQ ?_
   refine wp_cond_false rfl (wp_seq (wQ ?_))
   refine wp_cond_true rfl (wN [(0, 1), (1, 1), (2, 1), (3, 1), (4, 3)] (wT [0] ?_))
   refine wM 1 (.int .i64 3) (HM76.out.part1 0 rfl ((msC_epoch).trans (congrArg (fun z => some (Value.int .i64 z)) hep.out))) Tryz.underlying3 ?_
   refine wT [2, 3] ?_
   refine wpS_store1 (i := 4) (v := .int .i64 (4)) (L2 := [_, _, _, _, _, _, _, _]) (cs' := msC (⟨6, 1, 0, x.m.seq, x.m.re, x.m.abt, x.m.part, 4, x.m.key, x.m.b, x.m.r⟩) (.slice x.vp x.vn x.vc) (.slice x.rp x.rn x.rc) (.slice x.cp x.cn x.cc)) rfl (by rfl) rfl rfl rfl rfl (by kernel_rfl) rfl HM76.out 0 rfl rfl (by kernel_rfl) (msC_setEpoch _) covS_nil rfl ?_
   rintro W101 hm100 -
   have HM102 := Lib.hid hm100
   clear hm100
   refine wpS_nil (block_normal (then_normal (wp_seq (wN [(0, 1), (1, 1), (2, 3), (3, 1), (4, 1), (5, 1), (6, 3), (7, 1), (8, 1), (9, 1), (10, 1), (11, 1), (12, 1), (13, 1), (14, 1), (15, 1), (16, 3), (17, 1), (18, 1), (19, 1), (20, 1), (21, 1), (22, 3), (23, 1), (24, 1), (25, 1), (26, 3), (27, 1), (28, 1), (29, 1), (30, 1), (31, 3), (32, 1), (33, 1)] (wT [0] ?_)))))
   refine wL 1 (msC (⟨6, 1, 0, x.m.seq, x.m.re, x.m.abt, x.m.part, 4, x.m.key, x.m.b, x.m.r⟩) (.slice x.vp x.vn x.vc) (.slice x.rp x.rn x.rc) (.slice x.cp x.cn x.cc)) (HM102.out.part 0 rfl (msC_all)) Tryz.underlying52 ?_
   refine wD2h 2 [_, _, _, _, _, _, _] [_, _, _, _, _, _, _, _, _] Tryz.call23 (ggot_e (m := ⟨6, 1, 0, x.m.seq, x.m.re, x.m.abt, x.m.part, 4, x.m.key, x.m.b, x.m.r⟩) hA.out.ok hgy.out (got_no hgy.out) hxo.out.rd hlm.out) HM102 [3, 3] fun W104 HM105 => ?_
   refine wT [3, 4, 5] ?_
   refine wU1 6 [_, _, _, _, _, _, _, _] Tryz.call29 (gout_e hA.out.ok rfl) HM105 [0] fun u108 W107 hm106 => ?_
   obtain ⟨poo1, coo1, rfl, hm106q⟩ := Mem.nums (n := 1) (show (seqsG G1).length = 1 by rw [seqsG, List.length_map]; exact hA.out.len) hm106
   clear hm106
   have HM109 := Lib.hid hm106q
   clear hm106q
   refine wT [7, 8, 9, 10, 11, 12] ?_
   refine wM 13 (.int .i64 (pK (keyN k) : Int)) (HM109.out.part1 4 rfl ((msC_part).trans (congrArg (fun z => some (Value.int .i64 z)) hpt.out))) Tryz.underlying3 ?_
   refine wR 14 (v := msV ⟨8, 1, 0, 0, 0, 0, (pK (keyN k) : Int), 3, ⟨#[]⟩, noB, noR⟩ (.slice none 0 0) (.slice none 0 0) (.slice none 0 0)) (by kernel_rfl) ?_
   refine wT [15] ?_
   refine wD3h 16 [_, _, _, _, _, _, _, _] [_, _, _, _, _, _, _, _, _, _] Tryz.call25 (gended_e (m := ⟨8, 1, 0, 0, 0, 0, (pK (keyN k) : Int), 3, ⟨#[]⟩, noB, noR⟩) (vp := none) (rp := none) (cp := none) (vn := 0) (vc := 0) (rn := 0) (rc := 0) (cn := 0) (cc := 0) hA.out.ok hY.out.kept.ok hY.out.bl (hA.out.not_ended _ _)) HM109 [1, 5] fun W111 HM112 => ?_
   refine wT [17, 18, 19, 20] ?_
   refine wL 21 (msC (⟨6, 1, 0, x.m.seq, x.m.re, x.m.abt, x.m.part, x.m.epoch, x.m.key, x.m.b, x.m.r⟩) (.slice x.vp x.vn x.vc) (.slice x.rp x.rn x.rc) (.slice x.cp x.cn x.cc)) (HM112.out.part 5 rfl (msC_all)) Tryz.underlying52 ?_
   refine wD2h 22 [_, _, _, _, _, _, _, _] [_, _, _, _, _, _, _, _, _, _] Tryz.call23 (ggot_e (m := ansM x.m) hA.out.ok hg1.out hg2.out hxo.out.rd hlm.out) HM112 [0, 2] fun W114 HM115 => ?_
   refine wT [23, 24, 25] ?_
   refine wU1 26 [_, _, _, _, _, _, _, _, _] Tryz.call29 (gout_e hg3.out rfl) HM115 [0] fun u118 W117 hm116 => ?_
   obtain ⟨poo2, coo2, rfl, hm116q⟩ := Mem.nums (n := 0) (by have h0 := hg6.out; omega) hm116
   clear hm116
   have HM119 := Lib.hid hm116q
   clear hm116q
   refine wT [27, 28, 29, 30] ?_
   refine wD0h 31 [_, _, _, _, _, _, _, _, _, _, _] [_, _, _, _, _, _, _, _, _, _, _] Tryz.call10 (gawake_d) HM119 [] fun W121 HM122 => ?_
   refine wT [32, 33] ?_
   refine wZ (wp_ret (bodyPost_ret (results_tmp rfl _ _ _) rfl ?_))
   exact does_ret (Mem.only (M := []) HM122.out [] rfl) rfl rfl
  ·have hgy : Hid (gotB G1 (⟨6, 2, 0, x.m.seq, x.m.re, x.m.abt, x.m.part, x.m.epoch, x.m.key, x.m.b, x.m.r⟩ : Ms) = false) := Lib.hid (hA.out.wrong ho.out (.inl (by show (2 : Int) ≠ 1; decide)))
   refine wQ ?_
   refine wp_cond_false rfl (wp_seq (wQ ?_))
   refine wp_cond_false rfl (wp_seq (wQ ?_))
   refine wp_cond_true rfl (wN [(0, 1), (1, 3)] (wT [0] ?_))
   refine wpS_store1 (i := 1) (v := .int .i64 (2)) (L2 := [_, _, _, _, _, _, _, _]) (cs' := msC (⟨6, 2, 0, x.m.seq, x.m.re, x.m.abt, x.m.part, x.m.epoch, x.m.key, x.m.b, x.m.r⟩) (.slice x.vp x.vn x.vc) (.slice x.rp x.rn x.rc) (.slice x.cp x.cn x.cc)) rfl (by rfl) rfl rfl rfl rfl (by kernel_rfl) rfl HM76.out 0 rfl rfl (by kernel_rfl) (msC_setFrm _) covS_nil rfl ?_
   rintro W124 hm123 -
   have HM125 := Lib.hid hm123
   clear hm123
   refine wpS_nil (block_normal (then_normal (wp_seq (wN [(0, 1), (1, 1), (2, 3), (3, 1), (4, 1), (5, 1), (6, 3), (7, 1), (8, 1), (9, 1), (10, 1), (11, 1), (12, 1), (13, 1), (14, 1), (15, 1), (16, 3), (17, 1), (18, 1), (19, 1), (20, 1), (21, 1), (22, 3), (23, 1), (24, 1), (25, 1), (26, 3), (27, 1), (28, 1), (29, 1), (30, 1), (31, 3), (32, 1), (33, 1)] (wT [0] ?_)))))
   refine wL 1 (msC (⟨6, 2, 0, x.m.seq, x.m.re, x.m.abt, x.m.part, x.m.epoch, x.m.key, x.m.b, x.m.r⟩) (.slice x.vp x.vn x.vc) (.slice x.rp x.rn x.rc) (.slice x.cp x.cn x.cc)) (HM125.out.part 0 rfl (msC_all)) Tryz.underlying52 ?_
   refine wD2h 2 [_, _, _, _, _, _, _] [_, _, _, _, _, _, _, _, _] Tryz.call23 (ggot_e (m := ⟨6, 2, 0, x.m.seq, x.m.re, x.m.abt, x.m.part, x.m.epoch, x.m.key, x.m.b, x.m.r⟩) hA.out.ok hgy.out (got_no hgy.out) hxo.out.rd hlm.out) HM125 [3, 3] fun W127 HM128 => ?_
   refine wT [3, 4, 5] ?_
   refine wU1 6 [_, _, _, _, _, _, _, _] Tryz.call29 (gout_e hA.out.ok rfl) HM128 [0] fun u131 W130 hm129 => ?_
   obtain ⟨poo1, coo1, rfl, hm129q⟩ := Mem.nums (n := 1) (show (seqsG G1).length = 1 by rw [seqsG, List.length_map]; exact hA.out.len) hm129
   clear hm129
   have HM132 := Lib.hid hm129q
   clear hm129q
   refine wT [7, 8, 9, 10, 11, 12] ?_
   refine wM 13 (.int .i64 (pK (keyN k) : Int)) (HM132.out.part1 4 rfl ((msC_part).trans (congrArg (fun z => some (Value.int .i64 z)) hpt.out))) Tryz.underlying3 ?_
   refine wR 14 (v := msV ⟨8, 1, 0, 0, 0, 0, (pK (keyN k) : Int), 3, ⟨#[]⟩, noB, noR⟩ (.slice none 0 0) (.slice none 0 0) (.slice none 0 0)) (by kernel_rfl) ?_
   refine wT [15] ?_
   refine wD3h 16 [_, _, _, _, _, _, _, _] [_, _, _, _, _, _, _, _, _, _] Tryz.call25 (gended_e (m := ⟨8, 1, 0, 0, 0, 0, (pK (keyN k) : Int), 3, ⟨#[]⟩, noB, noR⟩) (vp := none) (rp := none) (cp := none) (vn := 0) (vc := 0) (rn := 0) (rc := 0) (cn := 0) (cc := 0) hA.out.ok hY.out.kept.ok hY.out.bl (hA.out.not_ended _ _)) HM132 [1, 5] fun W134 HM135 => ?_
   refine wT [17, 18, 19, 20] ?_
   refine wL 21 (msC (⟨6, 1, 0, x.m.seq, x.m.re, x.m.abt, x.m.part, x.m.epoch, x.m.key, x.m.b, x.m.r⟩) (.slice x.vp x.vn x.vc) (.slice x.rp x.rn x.rc) (.slice x.cp x.cn x.cc)) (HM135.out.part 5 rfl (msC_all)) Tryz.underlying52 ?_
   refine wD2h 22 [_, _, _, _, _, _, _, _] [_, _, _, _, _, _, _, _, _, _] Tryz.call23 (ggot_e (m := ansM x.m) hA.out.ok hg1.out hg2.out hxo.out.rd hlm.out) HM135 [0, 2] fun W137 HM138 => ?_
   refine wT [23, 24, 25] ?_
   refine wU1 26 [_, _, _, _, _, _, _, _, _] Tryz.call29 (gout_e hg3.out rfl) HM138 [0] fun u141 W140 hm139 => ?_
   obtain ⟨poo2, coo2, rfl, hm139q⟩ := Mem.nums (n := 0) (by have h0 := hg6.out; omega) hm139
   clear hm139
   have HM142 := Lib.hid hm139q
   clear hm139q
   refine wT [27, 28, 29, 30] ?_
   refine wD0h 31 [_, _, _, _, _, _, _, _, _, _, _] [_, _, _, _, _, _, _, _, _, _, _] Tryz.call10 (gawake_d) HM142 [] fun W144 HM145 => ?_
   refine wT [32, 33] ?_
   refine wZ (wp_ret (bodyPost_ret (results_tmp rfl _ _ _) rfl ?_))
   exact does_ret (Mem.only (M := []) HM145.out [] rfl) rfl rfl
  ·have hgy : Hid (gotB G1 (⟨6, 1, 0, x.m.seq, x.m.re, x.m.abt, x.m.part, x.m.epoch, x.m.key ++ ⟨#[120]⟩, x.m.b, x.m.r⟩ : Ms) = false) := Lib.hid (hA.out.wrong ho.out (.inr (.inr (.inr (.inr (.inl (by show x.m.key ++ ⟨#[120]⟩ ≠ o.key; rw [hx.out]; exact key_more o.key)))))))
   refine wQ ?_
   refine wp_cond_false rfl (wp_seq (wQ ?_))
   refine wp_cond_false rfl (wp_seq (wQ ?_))
   refine wp_cond_false rfl (wp_seq (wQ ?_))
   refine wp_cond_true rfl (wN [(0, 1), (1, 1), (2, 1), (3, 1), (4, 3)] (wT [0] ?_))
   refine wM 1 (.string x.m.key) (HM76.out.part1 0 rfl msC_key) Tryz.underlying9 ?_
   refine wR 2 (run_addS (s := x.m.key) (t := ⟨#[120]⟩) hk33.out rfl rfl rfl rfl) ?_
   refine wT [3] ?_
   refine wpS_store1 (i := 4) (v := .string (x.m.key ++ ⟨#[120]⟩)) (L2 := [_, _, _, _, _, _, _, _]) (cs' := msC (⟨6, 1, 0, x.m.seq, x.m.re, x.m.abt, x.m.part, x.m.epoch, x.m.key ++ ⟨#[120]⟩, x.m.b, x.m.r⟩) (.slice x.vp x.vn x.vc) (.slice x.rp x.rn x.rc) (.slice x.cp x.cn x.cc)) rfl (by rfl) rfl rfl rfl rfl (by kernel_rfl) rfl HM76.out 0 rfl rfl (by kernel_rfl) (msC_setKey _) covS_nil rfl ?_
   rintro W147 hm146 -
   have HM148 := Lib.hid hm146
   clear hm146
   refine wpS_nil (block_normal (then_normal (wp_seq (wN [(0, 1), (1, 1), (2, 3), (3, 1), (4, 1), (5, 1), (6, 3), (7, 1), (8, 1), (9, 1), (10, 1), (11, 1), (12, 1), (13, 1), (14, 1), (15, 1), (16, 3), (17, 1), (18, 1), (19, 1), (20, 1), (21, 1), (22, 3), (23, 1), (24, 1), (25, 1), (26, 3), (27, 1), (28, 1), (29, 1), (30, 1), (31, 3), (32, 1), (33, 1)] (wT [0] ?_)))))
   refine wL 1 (msC (⟨6, 1, 0, x.m.seq, x.m.re, x.m.abt, x.m.part, x.m.epoch, x.m.key ++ ⟨#[120]⟩, x.m.b, x.m.r⟩) (.slice x.vp x.vn x.vc) (.slice x.rp x.rn x.rc) (.slice x.cp x.cn x.cc)) (HM148.out.part 0 rfl (msC_all)) Tryz.underlying52 ?_
   refine wD2h 2 [_, _, _, _, _, _, _] [_, _, _, _, _, _, _, _, _] Tryz.call23 (ggot_e (m := ⟨6, 1, 0, x.m.seq, x.m.re, x.m.abt, x.m.part, x.m.epoch, x.m.key ++ ⟨#[120]⟩, x.m.b, x.m.r⟩) hA.out.ok hgy.out (got_no hgy.out) hxo.out.rd hlm.out) HM148 [3, 3] fun W150 HM151 => ?_
   refine wT [3, 4, 5] ?_
   refine wU1 6 [_, _, _, _, _, _, _, _] Tryz.call29 (gout_e hA.out.ok rfl) HM151 [0] fun u154 W153 hm152 => ?_
   obtain ⟨poo1, coo1, rfl, hm152q⟩ := Mem.nums (n := 1) (show (seqsG G1).length = 1 by rw [seqsG, List.length_map]; exact hA.out.len) hm152
   clear hm152
   have HM155 := Lib.hid hm152q
   clear hm152q
   refine wT [7, 8, 9, 10, 11, 12] ?_
   refine wM 13 (.int .i64 (pK (keyN k) : Int)) (HM155.out.part1 4 rfl ((msC_part).trans (congrArg (fun z => some (Value.int .i64 z)) hpt.out))) Tryz.underlying3 ?_
   refine wR 14 (v := msV ⟨8, 1, 0, 0, 0, 0, (pK (keyN k) : Int), 3, ⟨#[]⟩, noB, noR⟩ (.slice none 0 0) (.slice none 0 0) (.slice none 0 0)) (by kernel_rfl) ?_
   refine wT [15] ?_
   refine wD3h 16 [_, _, _, _, _, _, _, _] [_, _, _, _, _, _, _, _, _, _] Tryz.call25 (gended_e (m := ⟨8, 1, 0, 0, 0, 0, (pK (keyN k) : Int), 3, ⟨#[]⟩, noB, noR⟩) (vp := none) (rp := none) (cp := none) (vn := 0) (vc := 0) (rn := 0) (rc := 0) (cn := 0) (cc := 0) hA.out.ok hY.out.kept.ok hY.out.bl (hA.out.not_ended _ _)) HM155 [1, 5] fun W157 HM158 => ?_
   refine wT [17, 18, 19, 20] ?_
   refine wL 21 (msC (⟨6, 1, 0, x.m.seq, x.m.re, x.m.abt, x.m.part, x.m.epoch, x.m.key, x.m.b, x.m.r⟩) (.slice x.vp x.vn x.vc) (.slice x.rp x.rn x.rc) (.slice x.cp x.cn x.cc)) (HM158.out.part 5 rfl (msC_all)) Tryz.underlying52 ?_
   refine wD2h 22 [_, _, _, _, _, _, _, _] [_, _, _, _, _, _, _, _, _, _] Tryz.call23 (ggot_e (m := ansM x.m) hA.out.ok hg1.out hg2.out hxo.out.rd hlm.out) HM158 [0, 2] fun W160 HM161 => ?_
   refine wT [23, 24, 25] ?_
   refine wU1 26 [_, _, _, _, _, _, _, _, _] Tryz.call29 (gout_e hg3.out rfl) HM161 [0] fun u164 W163 hm162 => ?_
   obtain ⟨poo2, coo2, rfl, hm162q⟩ := Mem.nums (n := 0) (by have h0 := hg6.out; omega) hm162
   clear hm162
   have HM165 := Lib.hid hm162q
   clear hm162q
   refine wT [27, 28, 29, 30] ?_
   refine wD0h 31 [_, _, _, _, _, _, _, _, _, _, _] [_, _, _, _, _, _, _, _, _, _, _] Tryz.call10 (gawake_d) HM165 [] fun W167 HM168 => ?_
   refine wT [32, 33] ?_
   refine wZ (wp_ret (bodyPost_ret (results_tmp rfl _ _ _) rfl ?_))
   exact does_ret (Mem.only (M := []) HM168.out [] rfl) rfl rfl
  ·have hgy : Hid (gotB G1 (⟨6, 1, 0, x.m.seq, x.m.re, x.m.abt, x.m.part, x.m.epoch, x.m.key, noB, x.m.r⟩ : Ms) = false) := Lib.hid (hA.out.wrong ho.out (.inr (.inr (.inr (.inr (.inr (same_noB hb1.out.1)))))))
   refine wQ ?_
   refine wp_cond_false rfl (wp_seq (wQ ?_))
   refine wp_cond_false rfl (wp_seq (wQ ?_))
   refine wp_cond_false rfl (wp_seq (wQ ?_))
   refine wp_cond_false rfl (wp_seq (wQ ?_))
   refine wp_cond_true rfl (wN [(0, 1), (1, 1), (2, 3)] (wT [0, 1] ?_))
   refine wpS_storeA (i := 2) (L2 := [_, _, _, _, _, _, _, _]) (cs' := msC (⟨6, 1, 0, x.m.seq, x.m.re, x.m.abt, x.m.part, x.m.epoch, x.m.key, noB, x.m.r⟩) (.slice none 0 0) (.slice x.rp x.rn x.rc) (.slice x.cp x.cn x.cc)) rfl (by rfl) rfl rfl rfl (by kernel_rfl) (by rfl) HM76.out 0 rfl rfl (by kernel_rfl) (msC_setBag (noB) (.slice none 0 0)) covS_nil rfl ?_
   rintro W170 hm169 -
   have HM171 := Lib.hid hm169
   clear hm169
   refine wpS_nil (block_normal (then_normal (wp_seq (wN [(0, 1), (1, 1), (2, 3), (3, 1), (4, 1), (5, 1), (6, 3), (7, 1), (8, 1), (9, 1), (10, 1), (11, 1), (12, 1), (13, 1), (14, 1), (15, 1), (16, 3), (17, 1), (18, 1), (19, 1), (20, 1), (21, 1), (22, 3), (23, 1), (24, 1), (25, 1), (26, 3), (27, 1), (28, 1), (29, 1), (30, 1), (31, 3), (32, 1), (33, 1)] (wT [0] ?_)))))
   refine wL 1 (msC (⟨6, 1, 0, x.m.seq, x.m.re, x.m.abt, x.m.part, x.m.epoch, x.m.key, noB, x.m.r⟩) (.slice none 0 0) (.slice x.rp x.rn x.rc) (.slice x.cp x.cn x.cc)) (HM171.out.part 0 rfl (msC_all)) Tryz.underlying52 ?_
   refine wD2h 2 [_, _, _, _, _, _, _] [_, _, _, _, _, _, _, _, _] Tryz.call23 (ggot_e (m := ⟨6, 1, 0, x.m.seq, x.m.re, x.m.abt, x.m.part, x.m.epoch, x.m.key, noB, x.m.r⟩) hA.out.ok hgy.out (got_no hgy.out) (vNil _) (Nat.zero_le _)) HM171 [3, 3] fun W173 HM174 => ?_
   refine wT [3, 4, 5] ?_
   refine wU1 6 [_, _, _, _, _, _, _, _] Tryz.call29 (gout_e hA.out.ok rfl) HM174 [0] fun u177 W176 hm175 => ?_
   obtain ⟨poo1, coo1, rfl, hm175q⟩ := Mem.nums (n := 1) (show (seqsG G1).length = 1 by rw [seqsG, List.length_map]; exact hA.out.len) hm175
   clear hm175
   have HM178 := Lib.hid hm175q
   clear hm175q
   refine wT [7, 8, 9, 10, 11, 12] ?_
   refine wM 13 (.int .i64 (pK (keyN k) : Int)) (HM178.out.part1 4 rfl ((msC_part).trans (congrArg (fun z => some (Value.int .i64 z)) hpt.out))) Tryz.underlying3 ?_
   refine wR 14 (v := msV ⟨8, 1, 0, 0, 0, 0, (pK (keyN k) : Int), 3, ⟨#[]⟩, noB, noR⟩ (.slice none 0 0) (.slice none 0 0) (.slice none 0 0)) (by kernel_rfl) ?_
   refine wT [15] ?_
   refine wD3h 16 [_, _, _, _, _, _, _, _] [_, _, _, _, _, _, _, _, _, _] Tryz.call25 (gended_e (m := ⟨8, 1, 0, 0, 0, 0, (pK (keyN k) : Int), 3, ⟨#[]⟩, noB, noR⟩) (vp := none) (rp := none) (cp := none) (vn := 0) (vc := 0) (rn := 0) (rc := 0) (cn := 0) (cc := 0) hA.out.ok hY.out.kept.ok hY.out.bl (hA.out.not_ended _ _)) HM178 [1, 5] fun W180 HM181 => ?_
   refine wT [17, 18, 19, 20] ?_
   refine wL 21 (msC (⟨6, 1, 0, x.m.seq, x.m.re, x.m.abt, x.m.part, x.m.epoch, x.m.key, x.m.b, x.m.r⟩) (.slice x.vp x.vn x.vc) (.slice x.rp x.rn x.rc) (.slice x.cp x.cn x.cc)) (HM181.out.part 5 rfl (msC_all)) Tryz.underlying52 ?_
   refine wD2h 22 [_, _, _, _, _, _, _, _] [_, _, _, _, _, _, _, _, _, _] Tryz.call23 (ggot_e (m := ansM x.m) hA.out.ok hg1.out hg2.out hxo.out.rd hlm.out) HM181 [0, 2] fun W183 HM184 => ?_
   refine wT [23, 24, 25] ?_
   refine wU1 26 [_, _, _, _, _, _, _, _, _] Tryz.call29 (gout_e hg3.out rfl) HM184 [0] fun u187 W186 hm185 => ?_
   obtain ⟨poo2, coo2, rfl, hm185q⟩ := Mem.nums (n := 0) (by have h0 := hg6.out; omega) hm185
   clear hm185
   have HM188 := Lib.hid hm185q
   clear hm185q
   refine wT [27, 28, 29, 30] ?_
   refine wD0h 31 [_, _, _, _, _, _, _, _, _, _, _] [_, _, _, _, _, _, _, _, _, _, _] Tryz.call10 (gawake_d) HM188 [] fun W190 HM191 => ?_
   refine wT [32, 33] ?_
   refine wZ (wp_ret (bodyPost_ret (results_tmp rfl _ _ _) rfl ?_))
   exact does_ret (Mem.only (M := []) HM191.out [] rfl) rfl rfl
  ·have hgy : Hid (gotB G1 (⟨6, 1, 0, x.m.seq + 1, x.m.re, x.m.abt, x.m.part, x.m.epoch, x.m.key, x.m.b, x.m.r⟩ : Ms) = false) := Lib.hid (hA.out.wrong ho.out (.inr (.inr (.inr (.inl (by show x.m.seq + 1 ≠ o.seq; rw [hx.out]; show o.seq + 1 ≠ o.seq; omega))))))
   refine wQ ?_
   refine wp_cond_false rfl (wp_seq (wQ ?_))
   refine wp_cond_false rfl (wp_seq (wQ ?_))
   refine wp_cond_false rfl (wp_seq (wQ ?_))
   refine wp_cond_false rfl (wp_seq (wQ ?_))
   refine wp_cond_false rfl (wN [(0, 1), (1, 1), (2, 1), (3, 1), (4, 3)] (wT [0] ?_))
   refine wM 1 (.int .i64 x.m.seq) (HM76.out.part1 0 rfl msC_seq) Tryz.underlying3 ?_
   refine wT [2, 3] ?_
   refine wpS_store1 (i := 4) (v := .int .i64 (x.m.seq + 1)) (L2 := [_, _, _, _, _, _, _, _]) (cs' := msC (⟨6, 1, 0, x.m.seq + 1, x.m.re, x.m.abt, x.m.part, x.m.epoch, x.m.key, x.m.b, x.m.r⟩) (.slice x.vp x.vn x.vc) (.slice x.rp x.rn x.rc) (.slice x.cp x.cn x.cc)) rfl (by rfl) rfl rfl rfl rfl (by kernel_rfl) rfl HM76.out 0 rfl rfl (by kernel_rfl) (msC_setSeq _) covS_nil rfl ?_
   rintro W193 hm192 -
   have HM194 := Lib.hid hm192
   clear hm192
   refine wpS_nil (block_normal (then_normal (wp_seq (wN [(0, 1), (1, 1), (2, 3), (3, 1), (4, 1), (5, 1), (6, 3), (7, 1), (8, 1), (9, 1), (10, 1), (11, 1), (12, 1), (13, 1), (14, 1), (15, 1), (16, 3), (17, 1), (18, 1), (19, 1), (20, 1), (21, 1), (22, 3), (23, 1), (24, 1), (25, 1), (26, 3), (27, 1), (28, 1), (29, 1), (30, 1), (31, 3), (32, 1), (33, 1)] (wT [0] ?_)))))
   refine wL 1 (msC (⟨6, 1, 0, x.m.seq + 1, x.m.re, x.m.abt, x.m.part, x.m.epoch, x.m.key, x.m.b, x.m.r⟩) (.slice x.vp x.vn x.vc) (.slice x.rp x.rn x.rc) (.slice x.cp x.cn x.cc)) (HM194.out.part 0 rfl (msC_all)) Tryz.underlying52 ?_
   refine wD2h 2 [_, _, _, _, _, _, _] [_, _, _, _, _, _, _, _, _] Tryz.call23 (ggot_e (m := ⟨6, 1, 0, x.m.seq + 1, x.m.re, x.m.abt, x.m.part, x.m.epoch, x.m.key, x.m.b, x.m.r⟩) hA.out.ok hgy.out (got_no hgy.out) hxo.out.rd hlm.out) HM194 [3, 3] fun W196 HM197 => ?_
   refine wT [3, 4, 5] ?_
   refine wU1 6 [_, _, _, _, _, _, _, _] Tryz.call29 (gout_e hA.out.ok rfl) HM197 [0] fun u200 W199 hm198 => ?_
   obtain ⟨poo1, coo1, rfl, hm198q⟩ := Mem.nums (n := 1) (show (seqsG G1).length = 1 by rw [seqsG, List.length_map]; exact hA.out.len) hm198
   clear hm198
   have HM201 := Lib.hid hm198q
   clear hm198q
   refine wT [7, 8, 9, 10, 11, 12] ?_
   refine wM 13 (.int .i64 (pK (keyN k) : Int)) (HM201.out.part1 4 rfl ((msC_part).trans (congrArg (fun z => some (Value.int .i64 z)) hpt.out))) Tryz.underlying3 ?_
   refine wR 14 (v := msV ⟨8, 1, 0, 0, 0, 0, (pK (keyN k) : Int), 3, ⟨#[]⟩, noB, noR⟩ (.slice none 0 0) (.slice none 0 0) (.slice none 0 0)) (by kernel_rfl) ?_
   refine wT [15] ?_
   refine wD3h 16 [_, _, _, _, _, _, _, _] [_, _, _, _, _, _, _, _, _, _] Tryz.call25 (gended_e (m := ⟨8, 1, 0, 0, 0, 0, (pK (keyN k) : Int), 3, ⟨#[]⟩, noB, noR⟩) (vp := none) (rp := none) (cp := none) (vn := 0) (vc := 0) (rn := 0) (rc := 0) (cn := 0) (cc := 0) hA.out.ok hY.out.kept.ok hY.out.bl (hA.out.not_ended _ _)) HM201 [1, 5] fun W203 HM204 => ?_
   refine wT [17, 18, 19, 20] ?_
   refine wL 21 (msC (⟨6, 1, 0, x.m.seq, x.m.re, x.m.abt, x.m.part, x.m.epoch, x.m.key, x.m.b, x.m.r⟩) (.slice x.vp x.vn x.vc) (.slice x.rp x.rn x.rc) (.slice x.cp x.cn x.cc)) (HM204.out.part 5 rfl (msC_all)) Tryz.underlying52 ?_
   refine wD2h 22 [_, _, _, _, _, _, _, _] [_, _, _, _, _, _, _, _, _, _] Tryz.call23 (ggot_e (m := ansM x.m) hA.out.ok hg1.out hg2.out hxo.out.rd hlm.out) HM204 [0, 2] fun W206 HM207 => ?_
   refine wT [23, 24, 25] ?_
   refine wU1 26 [_, _, _, _, _, _, _, _, _] Tryz.call29 (gout_e hg3.out rfl) HM207 [0] fun u210 W209 hm208 => ?_
   obtain ⟨poo2, coo2, rfl, hm208q⟩ := Mem.nums (n := 0) (by have h0 := hg6.out; omega) hm208
   clear hm208
   have HM211 := Lib.hid hm208q
   clear hm208q
   refine wT [27, 28, 29, 30] ?_
   refine wD0h 31 [_, _, _, _, _, _, _, _, _, _, _] [_, _, _, _, _, _, _, _, _, _, _] Tryz.call10 (gawake_d) HM211 [] fun W213 HM214 => ?_
   refine wT [32, 33] ?_
   refine wZ (wp_ret (bodyPost_ret (results_tmp rfl _ _ _) rfl ?_))
   exact does_ret (Mem.only (M := []) HM214.out [] rfl) rfl rfl
end Go.Proofs.YtcchkkdbagpgjaaGreat
