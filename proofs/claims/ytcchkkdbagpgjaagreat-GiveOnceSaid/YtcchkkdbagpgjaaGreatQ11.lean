/- Q11: GvK, GvY. -/
import Derived.Test.YtcchkkdbagpgjaaGreatGvX
import Derived.Test.YtcchkkdbagpgjaaGreatPB
import Derived.Test.YtcchkkdbagpgjaaGreatQ12
import Derived.Test.YtcchkkdbagpgjaaGreatPA
import Derived.Test.YtcchkkdbagpgjaaGreatLgE
namespace Go.Proofs.YtcchkkdbagpgjaaGreat
open Go Go.RowKit Go.BigFrame
def elemU : Elem Tryz.prog Int where
 enc x := [.int .u8 x]
 k := 1
 pos := by decide
 len _ := rfl
 one _ u hu := by
  simp only [List.mem_cons, List.not_mem_nil, or_false] at hu
  subst hu
  rfl
 t := 5
 sl := 113
 under := Tryz.underlying113
 z := .int .u8 0
 bytes := 1
 bpos := by decide
 info := by kernel_rfl
 zs := by kernel_rfl
section
variable {W : World} {a : Act} {o : Oper}
theorem run_text2 {x : Operand} {b : Nat} {n1 n2 : Int} (hc0 : W.cell? ⟨b, 0, none⟩ = some (.int .u8 n1)) (hc1 : W.cell? ⟨b, 1, none⟩ = some (.int .u8 n2)) (ho : o.op = .convert 113 9 x) (hx : a.eval x = .slice (some ⟨b, 0, none⟩) 2 2) : (execOp a.eval o).run Tryz.prog W = .ok (.value (.string (strOfNums [n1, n2]))) W := by
 have h := run_convert_bytes_arg (P := Tryz.prog) W 113 5 Tryz.underlying113 Tryz.underlying5 b 0 2 2 [n1, n2] rfl (fun i hi => by
  rcases (show i = 0 ∨ i = 1 by omega) with rfl | rfl
  ·exact hc0
  ·exact hc1) 9 Tryz.underlying9
 unfold execOp
 simp only [ho, hx, Sem.run_bind, h, Result.andThen_ok]
 rfl
end
theorem run_textR {W : World} {a : Act} {o : Oper} {x : Operand} {b : Nat} {n1 n2 : Int} (h : RowAt elemU W (.slice (some ⟨b, 0, none⟩) 2 2) [n1, n2]) (ho : o.op = .convert 113 9 x) (hx : a.eval x = .slice (some ⟨b, 0, none⟩) 2 2) : (execOp a.eval o).run Tryz.prog W = .ok (.value (.string (strOfNums [n1, n2]))) W := by
 rcases h with ⟨h, _⟩ | ⟨b', o', c', he, _, hc⟩
 ·cases h
 ·simp only [Value.slice.injEq, Option.some.injEq, Addr.mk.injEq] at he
  obtain ⟨⟨rfl, rfl, _⟩, _, _⟩ := he
  exact run_text2 (hc 0 n1 rfl 0 _ rfl) (hc 1 n2 rfl 0 _ rfl) ho hx
def keyN (n : Int) : ByteArray := strOfNums [97 + IntKind.u64.wrap n % 26, 97 + IntKind.u64.wrap n / 26 % 26]
theorem keyN_key (n : Int) : keyB (keyN n) = true := by
 unfold keyB keyN
 exact decide_eq_true (show 1 ≤ 2 ∧ 2 ≤ 32 by decide)
theorem u64_letter (n : Int) : ∃ m : Nat, IntKind.u64.wrap n = (m : Int) := Int.eq_ofNat_of_zero_le (by rw [IntKind.wrap_u64]; omega)
theorem mod_part (n : Int) : ∃ m : Nat, wrap64 ((IntKind.u64.wrap n).tmod 16) = (m : Int) ∧ m < 16 := by
 obtain ⟨m, hm⟩ := u64_letter n
 rw [hm]
 refine ⟨m % 16, ?_, Nat.mod_lt _ (by decide)⟩
 rw [Int.tmod_eq_emod_of_nonneg (by omega)]
 unfold wrap64
 omega
set_option maxHeartbeats 4000000 in
set_option maxRecDepth 100000 in
theorem key_d (n : Int) : Does Tryz.prog 17 #[.int .i64 n] [] (.string (keyN n)) [] := by
 intro w H hp
 have HM0 := Lib.hid (mem_refl hp)
 clear hp
 go_enter Tryz.func17, Tryz.ntmps17
 refine wp_seq (wQ ?_)
 refine wp_seq ?_
 obtain ⟨m, hm'⟩ := u64_letter n
 have hm := Lib.hid hm'
 clear hm'
 have hm64 : (m : Int) < 18446744073709551616 := by rw [← hm.out, IntKind.wrap_u64]; omega
 have ht2 : Hid (IntKind.u64.wrap ((m : Int) / 26) = (m : Int) / 26) := Lib.hid (by rw [IntKind.wrap_u64]; omega)
 have ht3 : Hid (((m : Int) / 26).tmod 26 = (m : Int) / 26 % 26) := Lib.hid (Int.tmod_eq_emod_of_nonneg (by omega))
 have hw1 : Hid (wrap64 ((m : Int) % 26) = (m : Int) % 26) := Lib.hid (by unfold wrap64; omega)
 have hw2 : Hid (wrap64 ((m : Int) / 26 % 26) = (m : Int) / 26 % 26) := Lib.hid (by unfold wrap64; omega)
 have hb1 : Hid (IntKind.u8.wrap (97 + (m : Int) % 26) = 97 + (m : Int) % 26) := Lib.hid (by rw [IntKind.wrap_u8]; omega)
 have hb2 : Hid (IntKind.u8.wrap (97 + (m : Int) / 26 % 26) = 97 + (m : Int) / 26 % 26) := Lib.hid (by rw [IntKind.wrap_u8]; omega)
 have hkn : Hid (keyN n = strOfNums [97 + (m : Int) % 26, 97 + (m : Int) / 26 % 26]) := Lib.hid (by unfold keyN; rw [hm.out])
 refine wN [(0, 1), (1, 1), (2, 1), (3, 1), (4, 1), (5, 1), (6, 1), (7, 1), (8, 1), (9, 1), (10, 1), (11, 1), (12, 1), (13, 3), (14, 1), (15, 1)] (wT [0] ?_)
 refine wT [1] ?_
 rw [hm.out]
 refine wT [2] ?_
 refine wT [3] ?_
 try rw [hw1.out]
 refine wT [4] ?_
 refine wT [5] ?_
 try rw [hb1.out]
 refine wT [6] ?_
 refine wT [7] ?_
 rw [hm.out]
 refine wT [8] ?_
 try rw [ht2.out]
 refine wT [9] ?_
 try rw [ht3.out]
 refine wT [10] ?_
 try rw [hw2.out]
 refine wT [11] ?_
 refine wT [12] ?_
 try rw [hb2.out]
 refine wpS_buildN elemU (i := 13) (dd := 16) (n := 2) (xs := [97 + (m : Int) % 26, 97 + (m : Int) / 26 % 26]) (cs := #[.int .u8 (97 + (m : Int) % 26), .int .u8 (97 + (m : Int) / 26 % 26)]) rfl (by rfl) (fun _ => by kernel_rfl) rfl rfl HM0.out covS_nil rfl ?_
 rintro b3 W4 hm5 -
 have HM6 := Lib.hid hm5
 clear hm5
 simp only [Act.put, List.setIfInBounds_toArray, List.set_cons_succ, List.set_cons_zero]
 refine wR 14 (run_textR (HM6.out.row 0 rfl vRow) rfl rfl) ?_
 refine wT [15] ?_
 refine wZ (wp_ret (bodyPost_ret (results_tmp rfl _ _ _) rfl ?_))
 rw [hkn.out]
 exact does_ret (Mem.only (M := []) HM6.out [] rfl) rfl rfl
end Go.Proofs.YtcchkkdbagpgjaaGreat
namespace Go.Proofs.YtcchkkdbagpgjaaGreat
open Go Go.RowKit Go.BigFrame
section
variable {g dv dl : Nat} {A : At} {G G' : Gv} {S : Vt} {l : List Ms}
theorem gtick_e (hG : GvOk G) (hS : VtOk S) (hl : S.b.length ≤ 3000) (ht : G.ticks < 1000000) (h : tickG G S = (G', l)) : DoesU Tryz.prog 19 #[.pointer (some ⟨g, 0, none⟩), .pointer (some ⟨dv, 0, none⟩)] [gvT g A G, A, vtT dv dl S] (fun u => [gtT g A u G' l, vtT dv dl S]) := by
 have h1 := gtick_d g dv dl A G hG ht S hS hl
 rw [h] at h1
 exact h1
theorem gended_e {m : Ms} {vp rp cp : Option Addr} {vn vc rn rc cn cc : Nat} {b : Bool} (hG : GvOk G) (hS : VtOk S) (hl : S.b.length ≤ 3000) (h : endedG G m S = b) : Does Tryz.prog 25 #[.pointer (some ⟨g, 0, none⟩), msV m (.slice vp vn vc) (.slice rp rn rc) (.slice cp cn cc), .pointer (some ⟨dv, 0, none⟩)] [gvT g A G, vtT dv dl S] (.bool b) [gvT g A G, vtT dv dl S] := by
 have h1 := gended_d g dv dl A G hG S hS hl m vp rp cp vn vc rn rc cn cc
 rw [h] at h1
 exact h1
theorem ggot_e {m : Ms} {sv : Value} {rp cp : Option Addr} {rn rc cn cc : Nat} {b : Bool} (hG : GvOk G) (h : gotB G m = b) (h2 : gotG G m = G') (hm : Reads elemV A sv m.b.v) (lm : m.b.v.length ≤ 4398046510976) : Does Tryz.prog 23 #[.pointer (some ⟨g, 0, none⟩), msV m sv (.slice rp rn rc) (.slice cp cn cc)] [gvT g A G, A] (.bool b) [gvT g A G', A] := by
 have h1 := ggotA_d g A G hG m sv hm lm rp cp rn rc cn cc
 rw [h, h2] at h1
 exact h1
theorem gwrote_e {k : ByteArray} {b : Bool} (hG : GvOk G) (h : backB G.F k = b) (h2 : wroteG G k = G') (hk : keyB k = true) (hd : G.F.due.length < 2000) : Does Tryz.prog 21 #[.pointer (some ⟨g, 0, none⟩), .string k] [gvT g A G] (.bool b) [gvT g A G'] := by
 have h1 := gwrote_d g A G hG k hk hd
 rw [h, h2] at h1
 exact h1
theorem gout_e {l : List Int} (hG : GvOk G) (h : seqsG G = l) : DoesU Tryz.prog 29 #[.pointer (some ⟨g, 0, none⟩)] [gvT g A G] (fun u => [numsT u l, gvT g A G]) := by
 have h1 := gout_d g A G hG
 rw [h] at h1
 exact h1
end
theorem popD_nil : ∀ l : List ByteArray, popD [] l = (none, [])
 | [] => rfl
 | k :: l => by
  unfold popD
  rw [if_neg (by simp [hasL])]
  exact popD_nil l
theorem next_nil (F : Fd) : nextF F [] = (⟨F.part, F.any, F.last, []⟩, none) := by
 unfold nextF
 rw [popD_nil]
 rfl
theorem w9_keys3 : keysV (playD (newL 9).l) 3 = [] := by decide +kernel
def g20 : Gv := ⟨0, 3, 1, 1, newF 3, 0, 1, true, []⟩
theorem g20_tick : tickG (newG 0 3 1 1) (playD (newL 9).l) = (g20, [endM (newG 0 3 1 1)]) := by
 have h1 : fillT (newG 0 3 1 1) (playD (newL 9).l) = (⟨0, 3, 1, 1, newF 3, 0, 1, false, []⟩, []) := by
  show fillG (playD (newL 9).l) 4 (agedG (newG 0 3 1 1)) = _
  unfold fillG
  have : nextF (agedG (newG 0 3 1 1)).F (keysV (playD (newL 9).l) (agedG (newG 0 3 1 1)).F.part) = (newF 3, none) := by
   rw [show (agedG (newG 0 3 1 1)).F.part = 3 from rfl, w9_keys3]
   exact next_nil _
  rw [this]
  rfl
 have h3 : overF (newF 3) (keysV (playD (newL 9).l) (newF 3).part) = true := by
  rw [show (newF 3).part = 3 from rfl, w9_keys3]
  unfold overF
  rw [next_nil]
  rfl
 have h2 : overG (fillT (newG 0 3 1 1) (playD (newL 9).l)).1 (playD (newL 9).l) = true := by
  rw [h1]
  unfold overG
  rw [h3]
  rfl
 rw [tick_end h2]
 unfold tellL
 rw [h1]
 rfl
theorem g20_ended : endedG g20 ⟨8, 1, 0, 0, 0, 0, 3, 1, ⟨#[]⟩, noB, noR⟩ (playD (newL 9).l) = true := by
 have h2 : overF g20.F (keysV (playD (newL 9).l) g20.F.part) = true := by
  rw [show g20.F.part = 3 from rfl, w9_keys3]
  unfold overF
  rw [next_nil]
  rfl
 unfold endedG overG
 rw [h2]
 rfl
theorem g20_new : GvOk (newG 0 3 1 1) := GvOk.new (by decide)
theorem g20_ok : GvOk g20 := by
 have h := g20_new.tick (playD (newL 9).l)
 rw [g20_tick] at h
 exact h
set_option maxHeartbeats 4000000 in
set_option maxRecDepth 100000 in
theorem gawake_d  : Does Tryz.prog 10 #[] [] (.bool true) [] := by
 intro w H hp
 have HM0 := Lib.hid (mem_refl hp)
 clear hp
 go_enter Tryz.func10, Tryz.ntmps10
 refine wp_seq (wQ ?_)
 refine wp_seq (wN [(0, 3), (1, 3), (2, 1)] ?_)
 refine wU1 0 [] Tryz.call12 (lnew_d 9) HM0 [] fun u3 W2 hm1 => ?_
 obtain ⟨dl, rfl, hm1q⟩ := Mem.lgN hm1
 clear hm1
 have HM4 := Lib.hid hm1q
 clear hm1q
 refine wU1 1 [] Tryz.call11 (vopen_d dl (newL 9) (LgOk.new 9)) HM4 [0] fun u7 W6 hm5 => ?_
 obtain ⟨dv, rfl, hm5q⟩ := Mem.vtN hm5
 clear hm5
 have HM8 := Lib.hid hm5q
 clear hm5q
 refine wT [2] ?_
 refine wZ (wp_seq (wN [(0, 3), (1, 1)] ?_))
 refine wU4 0 [_, _] Tryz.call15 (gvnew_d 0 3 1 1 (by decide)) HM8 [] fun u11 W10 hm9 => ?_
 obtain ⟨g, rfl, hm9q⟩ := Mem.gvN hm9
 clear hm9
 have HM12 := Lib.hid hm9q
 clear hm9q
 refine wT [1] ?_
 refine wZ (wp_seq (wN [(0, 1), (1, 1), (2, 3), (3, 1)] (wT [0, 1] ?_)))
 refine wU2 2 [_] Tryz.call19 (gtick_e g20_new (Kept.open (LgOk.new 9)).ok (by decide) (by decide) g20_tick) HM12 [0, 0, 0] fun u15 W14 hm13 => ?_
 obtain ⟨rs, hm13a⟩ := Mem.gt hm13
 clear hm13
 obtain ⟨xs, pm, cm, rfl, hxsm', hxso', hm13q⟩ := Mem.tells hm13a
 clear hm13a
 have hxsm := Lib.hid hxsm'
 clear hxsm'
 have hxso := Lib.hid hxso'
 clear hxso'
 obtain ⟨x, rfl⟩ : ∃ x, xs = [x] := List.length_eq_one_iff.1 (by have h := congrArg List.length hxsm.out; rwa [List.length_map] at h)
 have hx : Hid (x.m = endM (newG 0 3 1 1)) := Lib.hid (by have h := hxsm.out; exact (List.cons.inj h).1)
 clear hxsm hxso
 have HM16 := Lib.hid hm13q
 clear hm13q
 refine wT [3] ?_
 refine wZ (wp_seq (wN [(0, 1), (1, 1), (2, 1), (3, 1), (4, 1), (5, 1), (6, 1), (7, 1), (8, 1), (9, 1), (10, 1), (11, 1), (12, 1), (13, 1), (14, 1), (15, 1), (16, 1), (17, 1), (18, 1), (19, 1), (20, 1), (21, 1), (22, 1), (23, 1), (24, 1), (25, 1), (26, 1), (27, 1), (28, 3), (29, 1), (30, 1)] (wT [0, 1, 2, 3, 4] ?_)))
 refine wI elemMx 5 (HM16.out.row 0 rfl vRow) ((rfl : [x][0]? = some x)) fun eb17 eo18 hc19 => ?_
 refine wT [6] ?_
 refine wM 7 (.int .i64 7) ((hc19 0 _ msC_kind).trans (by rw [hx.out]; rfl)) Tryz.underlying3 ?_
 refine wT [8, 9, 10, 11] ?_
 refine wI elemMx 12 (HM16.out.row 0 rfl vRow) ((rfl : [x][0]? = some x)) fun eb20 eo21 hc22 => ?_
 refine wT [13] ?_
 refine wM 14 (.int .i64 3) ((hc22 6 _ msC_part).trans (by rw [hx.out]; rfl)) Tryz.underlying3 ?_
 refine wT [15, 16, 17, 18] ?_
 refine wI elemMx 19 (HM16.out.row 0 rfl vRow) ((rfl : [x][0]? = some x)) fun eb23 eo24 hc25 => ?_
 refine wT [20] ?_
 refine wM 21 (.int .i64 1) ((hc25 2 _ msC_dst).trans (by rw [hx.out]; rfl)) Tryz.underlying3 ?_
 refine wT [22, 23, 24, 25] ?_
 refine wR 26 (v := msV ⟨8, 1, 0, 0, 0, 0, 3, 1, ⟨#[]⟩, noB, noR⟩ (.slice none 0 0) (.slice none 0 0) (.slice none 0 0)) (by kernel_rfl) ?_
 refine wT [27] ?_
 refine wD3h 28 [_, _, _] [_, _, _, _, _] Tryz.call25 (gended_e (m := ⟨8, 1, 0, 0, 0, 0, 3, 1, ⟨#[]⟩, noB, noR⟩) (vp := none) (rp := none) (cp := none) (vn := 0) (vc := 0) (rn := 0) (rc := 0) (cn := 0) (cc := 0) g20_ok (Kept.open (LgOk.new 9)).ok (by decide) g20_ended) HM16 [1, 2] fun W27 HM28 => ?_
 refine wT [29, 30] ?_
 refine wZ (wp_ret (bodyPost_ret (results_tmp rfl _ _ _) rfl ?_))
 exact does_ret (Mem.only (M := []) HM28.out [] rfl) rfl rfl
end Go.Proofs.YtcchkkdbagpgjaaGreat
